"""Shapes: cells that hang together, their pieces, their forms, and cuts."""

from gripwood.turning import turned_cells, turns
from gripwood.ways import place, step, ways, ways_of


def hangs(cells):
    """Whether cells hang together."""
    return len(pieces(cells)) <= 1


def pieces(cells):
    """The greatest parts of cells that hang together, each one rising, by their least cells."""
    return linked({cell: [step(cell, way, 1) for way in ways()] for cell in cells})


def linked(links):
    """The keys of a dict in the parts that its links hold together, each one rising, by their first keys.

    Links between keys lead back as well; those to what is no key are passed over.
    """
    left = {one: True for one in links}
    found = []
    for one in sorted(links):
        if one in left:
            found.append(take_linked(left, links, one))
    return found


def take_linked(left, links, first):
    """Takes the first one, and all in the dict to which links lead from it on, out of the dict; tells them rising."""
    del left[first]
    taken = []
    waiting = [first]
    while waiting:
        one = waiting.pop()
        taken.append(one)
        for other in links[one]:
            if other in left:
                del left[other]
                waiting.append(other)
    return sorted(taken)


def form(cells):
    """The least of all rising lists that come of cells by a turn and by shifting them to 0."""
    if not cells:
        return []
    return min([settled(turned_cells(cells, turn)) for turn in turns()])


def settled(cells):
    """The rising list of cells, shifted so that their least x, least y and least z are 0."""
    low_x, low_y, low_z = [min(numbers) for numbers in zip(*cells)]
    return sorted([(x - low_x, y - low_y, z - low_z) for x, y, z in cells])


def alike(one, other):
    """Whether two shapes have one form."""
    return form(one) == form(other)


def cut(cells, line, at):
    """The cells whose number on a line is less than at, and the others: a pair of rising lists."""
    # On the first way of a line the place of a cell is its number itself.
    forth = ways_of(line)[0]
    less = [cell for cell in cells if place(cell, forth) < at]
    rest = [cell for cell in cells if place(cell, forth) >= at]
    return sorted(less), sorted(rest)
