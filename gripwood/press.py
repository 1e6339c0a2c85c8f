"""Stacks that are pressed on a way against a wall."""

from gripwood.stacks import between, cells_of, check_asked, neighbours, numbers_of, shifted
from gripwood.ways import place


def shifts(stack, way):
    """The rising list of pairs (block, steps)."""
    bounds = settled_bounds(stack, way)
    return [(number, bounds[number][0]) for number in numbers_of(stack)]


def pressed(stack, way):
    """The stack in which each block has gone its steps."""
    bounds = settled_bounds(stack, way)
    return shifted(stack, way, {number: bounds[number][0] for number in bounds})


def stop(stack, way, one):
    """A row from the block on by which its steps come about."""
    check_asked(stack, way, [one])
    bounds = settled_bounds(stack, way)
    told = [one]
    while bounds[told[-1]][1] is not None:
        told.append(bounds[told[-1]][1])
    return told


def settled_bounds(stack, way):
    """For each block the pair of its steps and the block ahead that bounds them, None where the wall does."""
    behind = gaps_behind(stack, way)
    waiting = wall_bounds(stack, way)
    settled = {}
    while waiting:
        # The least bound that is left can be made no less by the others, as no gap is less than nought.
        other = min(waiting, key=lambda number: waiting[number][0])
        settled[other] = waiting.pop(other)
        for one, many in behind[other]:
            steps = settled[other][0] + many
            if one in waiting and steps < waiting[one][0]:
                waiting[one] = (steps, other)
    return settled


def wall_bounds(stack, way):
    """For each block the pair of how far its farthest cell lies before the stack's farthest place, and None."""
    wall = max([place(cell, way) for cell in cells_of(stack)], default=0)
    return {number: (wall - max([place(cell, way) for cell in cells]), None) for number, cells in stack}


def gaps_behind(stack, way):
    """For each block the pairs of a neighbour behind it, and how many cells lie between the two."""
    found = {number: [] for number in numbers_of(stack)}
    for one, other, cell, farther in neighbours(stack, way):
        found[other].append((one, between(cell, farther, way)))
    return found
