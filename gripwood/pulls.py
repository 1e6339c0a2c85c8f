"""Groups that are moved and pulled out."""

from gripwood.along import along
from gripwood.errors import Touch
from gripwood.stacks import between, cells_of, check_asked, neighbours, numbers_of, part_of, rest_of, shifted
from gripwood.ways import place, ways_of


def moved(stack, way, group, many):
    """The stack in which a group is moved many steps on a way; Touch where it touches on the way there."""
    check_asked(stack, way, group)
    chosen = {number: True for number in group}
    # Between two cells that touch first there is no other cell, whose touch would come sooner: so they are neighbours.
    touches = [(between(cell, farther, way) + 1, farther) for one, other, cell, farther in neighbours(stack, way)
               if one in chosen and other not in chosen]
    if touches:
        after, cell = min(touches)
        if after <= many:
            raise Touch(cell)
    return shifted(stack, way, {number: many if number in chosen else 0 for number in numbers_of(stack)})


def clear(stack, way, group):
    """Behind how many steps on a way a group is clear."""
    check_asked(stack, way, group)
    own = [place(cell, way) for cell in cells_of(part_of(stack, group))]
    rest = [place(cell, way) for cell in cells_of(rest_of(stack, group))]
    if not own or not rest:
        return 0
    return max(0, max(rest) - min(own) + 1)


def a_pull(stack, lines):
    """A pull on an open line, or None where there is none."""
    open_ways = [way for line in lines for way in ways_of(line)]
    # Where all blocks come along with one of them on both ways of a line, rows lead from each block to each other one.
    first = numbers_of(stack)[:1]
    for way in open_ways:
        group = along(stack, way, first)
        if len(group) < len(stack):
            return (way, group)
    return None
