"""Which blocks of a stack lie ahead of which ones on a way, and how far."""

from gripwood.stacks import between, check_asked, lanes, neighbours, part_of


def pairs(stack, way):
    """The rising list of all pairs (one, other) where the other block lies ahead of the one."""
    found = {}
    for spots in lanes(stack, way).values():
        for pair in lane_pairs(spots):
            found[pair] = True
    return sorted(found)


def lane_pairs(spots):
    """The pairs (one, other) of blocks that come about in one lane."""
    first = {}
    last = {}
    for at, number, cell in spots:
        first.setdefault(number, at)
        last[number] = at
    return [(one, other) for one in first for other in last if one != other and first[one] < last[other]]


def meetings(stack, way, one, other):
    """Pairs of a cell of one and a cell of other in its lane and farther; the nearest such two are among them."""
    check_asked(stack, way, [one, other])
    both = part_of(stack, [one, other])
    return [(cell, farther) for near, far, cell, farther in neighbours(both, way) if near == one]


def meets(stack, way, one, other):
    """A pair of a cell of one and a cell of other by which other lies ahead of one, or None."""
    met = meetings(stack, way, one, other)
    return met[0] if met else None


def gap(stack, way, one, other):
    """The gap from one to other, or None where other does not lie ahead."""
    return min([between(cell, farther, way) for cell, farther in meetings(stack, way, one, other)], default=None)
