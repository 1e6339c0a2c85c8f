"""Rings: the greatest groups of blocks that hold one another on a way."""

from gripwood.shapes import take_linked
from gripwood.stacks import neighbours, numbers_of
from gripwood.ways import back


def rings(stack, way):
    """All rings, by their first blocks."""
    return sorted(leaving_rings(stack, way))


def leaving_rings(stack, way):
    """All rings in an order in which each one goes out of those that are left by then."""
    order = leaving_order(followers(stack, way))
    # Rows to the block that was left last come only from its own ring, or from rings that are taken out already.
    behind = followers(stack, back(way))
    left = {number: True for number in order}
    found = []
    for number in order[::-1]:
        if number in left:
            found.append(take_linked(left, behind, number))
    return found[::-1]


def followers(stack, way):
    """For each block those that are its neighbours ahead."""
    found = {number: [] for number in numbers_of(stack)}
    for one, other, cell, farther in neighbours(stack, way):
        found[one].append(other)
    return found


def leaving_order(ahead):
    """All blocks, each one behind those that a walk ahead from it meets first and then leaves."""
    met = {}
    order = []
    waiting = [(number, False) for number in ahead]
    while waiting:
        number, leaving = waiting.pop()
        if leaving:
            order.append(number)
        elif number not in met:
            met[number] = True
            waiting.append((number, True))
            waiting.extend([(other, False) for other in ahead[number] if other not in met])
    return order
