"""What the modules about stacks share: blocks by their numbers, parts of a stack, and its cells lane by lane."""

from gripwood.errors import NoBlock
from gripwood.ways import check_way, lane, place, step


def numbers_of(stack):
    """The numbers of all blocks, which rise."""
    return [number for number, cells in stack]


def check_blocks(stack, group):
    """Refuses a group that has a number which is no block."""
    known = {number: True for number in numbers_of(stack)}
    for number in group:
        if number not in known:
            raise NoBlock(f"{number} is no block")


def check_asked(stack, way, group):
    """Refuses a text that is no way, and only behind it a number that is no block."""
    check_way(way)
    check_blocks(stack, group)


def part_of(stack, group):
    """The stack of just the blocks of a group."""
    chosen = {number: True for number in group}
    return [(number, list(cells)) for number, cells in stack if number in chosen]


def rest_of(stack, group):
    """The stack of all blocks but those of a group."""
    chosen = {number: True for number in group}
    return [(number, list(cells)) for number, cells in stack if number not in chosen]


def cells_of(stack):
    """The cells of all blocks."""
    return [cell for number, cells in stack for cell in cells]


def shifted(stack, way, steps):
    """The stack in which each block lies as many steps farther as the dict tells for it."""
    # All cells of a block go equally far, so they rise as before.
    return [(number, [step(cell, way, steps[number]) for cell in cells]) for number, cells in stack]


def lanes(stack, way):
    """For each lane that has cells the rising list of its spots, triples of a place, a block and the cell."""
    check_way(way)
    found = {}
    for number, cells in stack:
        for cell in cells:
            found.setdefault(lane(cell, way), []).append((place(cell, way), number, cell))
    return {key: sorted(found[key]) for key in found}


def neighbours(stack, way):
    """All (one, other, cell, farther): unlike blocks, and cells of them with no cell of the stack between them.

    Wherever a block lies ahead of another one, neighbours lead from the one to the other, and nowhere
    else; so they tell as much as all pairs of blocks do, though there are never more of them than cells.
    """
    found = []
    for spots in lanes(stack, way).values():
        for (near, one, cell), (far, other, farther) in zip(spots, spots[1:]):
            if one != other:
                found.append((one, other, cell, farther))
    return found


def between(cell, farther, way):
    """How many cells lie between two cells of a lane."""
    return place(farther, way) - place(cell, way) - 1
