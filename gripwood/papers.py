"""Papers, which show that a group is never parted by pulls, or that one hand never takes a block of it out."""

from gripwood.along import trail
from gripwood.peel import core
from gripwood.rings import followers, rings
from gripwood.stacks import check_blocks, numbers_of, part_of
from gripwood.ways import forth_ways, lane, ordered_ways, place


def knot_paper(stack, lines, group):
    """A paper of a group, or None where there is none."""
    forths = forth_ways(lines)
    check_blocks(stack, group)
    part = part_of(stack, group)
    if not part or any(len(rings(part, way)) > 1 for way in forths):
        return None
    return [tour(part, way) for way in forths]


def good_knot(stack, lines, group, paper):
    """Whether a list of lists of numbers is a paper of a group."""
    forths = forth_ways(lines)
    check_blocks(stack, group)
    part = part_of(stack, group)
    if not part or len(paper) != len(forths):
        return False
    return all(good_tour(part, way, told) for way, told in zip(forths, paper))


def core_paper(stack, ways):
    """A paper of the core."""
    chosen = ordered_ways(ways)
    part = part_of(stack, core(stack, chosen))
    told = []
    for way in chosen:
        ahead = followers(part, way)
        told.extend([(number, way, ahead[number][0]) for number in ahead])
    return told


def good_core(stack, ways, group, paper):
    """Whether a list of triples is a paper of a group."""
    chosen = ordered_ways(ways)
    check_blocks(stack, group)
    part = part_of(stack, group)
    wanted = [(number, way) for number in numbers_of(part) for way in chosen]
    if sorted([(one, way) for one, way, other in paper]) != sorted(wanted):
        return False
    return all(all_ahead(part, way, [(one, other) for one, on, other in paper if on == way]) for way in chosen)


def tour(stack, way):
    """A round of all blocks of a stack that is one ring on a way."""
    ahead = followers(stack, way)
    first, *others = numbers_of(stack)
    told = [first]
    left = {number: True for number in others}
    while left:
        farther = nearest(ahead, told[-1], left)
        told.extend(farther)
        for number in farther:
            left.pop(number, None)
    if others:
        told.extend(nearest(ahead, told[-1], {first: True})[:-1])
    return told


def nearest(ahead, one, wanted):
    """A shortest row from a block to one that is wanted, without its first block; such a row there must be."""
    before = {one: None}
    waiting = [one]
    at = 0
    while True:
        for other in ahead[waiting[at]]:
            if other in wanted:
                return trail(before, waiting[at])[1:] + [other]
            if other not in before:
                before[other] = waiting[at]
                waiting.append(other)
        at += 1


def good_tour(stack, way, told):
    """Whether a list of numbers is a round of all blocks of a stack on a way."""
    numbers = numbers_of(stack)
    if sorted(set(told)) != numbers:
        return False
    if len(numbers) == 1:
        return told == numbers
    return all_ahead(stack, way, list(zip(told, told[1:] + told[:1])))


def all_ahead(stack, way, asked):
    """Whether of each pair of a block and any number the number is a block ahead of the one."""
    found = reaches(stack, way)
    # A round may come by the same two blocks very often.
    unlike = {pair: True for pair in asked}
    return all(lies_ahead(found, one, other) for one, other in unlike)


def reaches(stack, way):
    """For each block a dict of its lanes, with the pair of its least and its greatest place in each one."""
    found = {number: {} for number in numbers_of(stack)}
    for number, cells in stack:
        for cell in cells:
            key, at = lane(cell, way), place(cell, way)
            low, high = found[number].get(key, (at, at))
            found[number][key] = (min(low, at), max(high, at))
    return found


def lies_ahead(found, one, other):
    """Whether a number is another block than the one, and lies ahead of it, by what reaches tells."""
    if one == other or other not in found:
        return False
    near, far = found[one], found[other]
    fewer = near if len(near) < len(far) else far
    return any(key in near and key in far and near[key][0] < far[key][1] for key in fewer)
