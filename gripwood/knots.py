"""Knots: what is left of a stack when no pull parts it any more."""

from gripwood.rings import leaving_rings
from gripwood.stacks import check_blocks, numbers_of, part_of
from gripwood.ways import forth_ways


def knots(stack, lines):
    """All knots, by their first blocks."""
    return sorted(taken_apart(stack, lines)[1])


def taken_apart(stack, lines):
    """Pulls on open lines that part a stack into its knots, and the knots."""
    # A group that goes out on a way is what a pull of the rest on the way back leaves, so one way of a line is enough.
    forths = forth_ways(lines)
    pulls = []
    left = []
    waiting = [stack] if stack else []
    while waiting:
        part = waiting.pop()
        way, groups = parted(part, forths)
        if len(groups) == 1:
            left.extend(groups)
        else:
            pulls.extend([(way, group) for group in groups[:-1]])
            waiting.extend([part_of(part, group) for group in groups])
    return pulls, left


def parted(stack, ways):
    """The first of the ways on which there are several rings, and these in an order in which they go out.

    Where there is none, the way is None, and all blocks are in one group.
    """
    for way in ways:
        groups = leaving_rings(stack, way)
        if len(groups) > 1:
            return way, groups
    return None, [numbers_of(stack)]


def knot_of(stack, lines, one):
    """The knot that has the block."""
    found = knots(stack, lines)
    check_blocks(stack, [one])
    return [knot for knot in found if one in knot][0]
