"""Single blocks that one hand takes out of a stack, and the core that it leaves."""

from gripwood.stacks import check_blocks, neighbours, numbers_of, rest_of
from gripwood.ways import check_way


def free(stack, ways):
    """The blocks that go out alone on some open way."""
    found = {}
    for way in ways:
        stopped = {one: True for one, other, cell, farther in neighbours(stack, way)}
        for number in numbers_of(stack):
            if number not in stopped:
                found[number] = True
    return sorted(found)


def peeled(stack, ways):
    """The list of the rounds, and the stack that they leave."""
    told = []
    left = stack
    taken = free(left, ways)
    while taken:
        told.append(taken)
        left = rest_of(left, taken)
        taken = free(left, ways)
    return told, left


def rounds(stack, ways):
    """The list of the rounds, without the core."""
    return peeled(stack, ways)[0]


def core(stack, ways):
    """The blocks that are left when none goes out alone."""
    return numbers_of(peeled(stack, ways)[1])


def freed(stack, ways, taken):
    """Whether the blocks of a list can be taken out one by one in this order."""
    for way in ways:
        check_way(way)
    check_blocks(stack, taken)
    left = stack
    for number in taken:
        if number not in free(left, ways):
            return False
        left = rest_of(left, [number])
    return True
