"""Groups that go out on a way, what stops them, and what comes along with them."""

from gripwood.ahead import pairs
from gripwood.stacks import check_asked, lanes, neighbours
from gripwood.ways import lane, place


def goes_out(stack, way, group):
    """Whether no block that is not of the group lies ahead of one of it."""
    check_asked(stack, way, group)
    chosen = {number: True for number in group}
    return not any(one in chosen and other not in chosen for one, other, cell, farther in neighbours(stack, way))


def stops(stack, way, group):
    """The rising list of all pairs (one, other): one of the group, the other not, and ahead of it."""
    check_asked(stack, way, group)
    chosen = {number: True for number in group}
    return [(one, other) for one, other in pairs(stack, way) if one in chosen and other not in chosen]


def along(stack, way, group):
    """The least group that has the group and goes out."""
    check_asked(stack, way, group)
    return sorted(reached(stack, way, group))


def row(stack, way, one, other):
    """A shortest row from one block to another one, or None where there is none."""
    check_asked(stack, way, [one, other])
    before = reached(stack, way, [one])
    return trail(before, other) if other in before else None


def trail(before, last):
    """The row to the last block, where the dict has for each block the one before it, and None for the first one."""
    told = [last]
    while before[told[-1]] is not None:
        told.append(before[told[-1]])
    return told[::-1]


def reached(stack, way, group):
    """For each block that comes along, the one before it on a shortest row from the group; None for the group's own."""
    cells_of = {number: cells for number, cells in stack}
    left = lanes(stack, way)
    before = {number: None for number in group}
    layer = list(before)
    while layer:
        farther = []
        for one in layer:
            for other in take_ahead(left, cells_of[one], way):
                if other not in before:
                    before[other] = one
                    farther.append(other)
        layer = farther
    return before


def take_ahead(left, cells, way):
    """Takes each spot that lies ahead of one of the cells out of the lanes, and tells the blocks of these spots."""
    # What is reached once need not be reached again, so each spot is looked at only once however many lie behind it.
    taken = []
    for cell in cells:
        spots = left[lane(cell, way)]
        while spots and spots[-1][0] > place(cell, way):
            at, number, farther = spots.pop()
            taken.append(number)
    return taken
