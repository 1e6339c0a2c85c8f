"""Knots: what is left of a stack when no pull parts it any more."""

from gripwood.rings import rings
from gripwood.stacks import check_blocks, numbers_of, part_of
from gripwood.ways import ways_of


def knots(stack, lines):
    """All knots, by their first blocks."""
    # A group that goes out on a way is what a pull of the rest on the way back leaves, so one way of a line is enough.
    forths = [ways_of(line)[0] for line in lines]
    found = []
    waiting = [stack] if stack else []
    while waiting:
        part = waiting.pop()
        groups = parted(part, forths)
        if len(groups) == 1:
            found.extend(groups)
        else:
            waiting.extend([part_of(part, group) for group in groups])
    return sorted(found)


def parted(stack, ways):
    """The rings on the first of the ways on which there are several; all blocks in one group where there is none."""
    for way in ways:
        groups = rings(stack, way)
        if len(groups) > 1:
            return groups
    return [numbers_of(stack)]


def knot_of(stack, lines, one):
    """The knot that has the block."""
    found = knots(stack, lines)
    check_blocks(stack, [one])
    return [knot for knot in found if one in knot][0]
