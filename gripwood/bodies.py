"""Bodies: blocks that pegs hold together, so that they move as one; all is told by the numbers of all blocks."""

from gripwood.along import along
from gripwood.errors import BadPull
from gripwood.knots import knots
from gripwood.peel import core
from gripwood.plans import judged, plan
from gripwood.press import shifts
from gripwood.shapes import linked
from gripwood.stacks import numbers_of
from gripwood.ways import step, ways_of


def bodies_of(stack, rows):
    """The bodies of a stack with pegs through these rows of cells, by their first blocks."""
    owners = {cell: number for number, cells in stack for cell in cells}
    links = {number: [] for number in numbers_of(stack)}
    for row in rows:
        for cell, farther in zip(row, row[1:]):
            links[owners[cell]].append(owners[farther])
            links[owners[farther]].append(owners[cell])
    return linked(links)


def stack_of_bodies(stack, bodies):
    """The stack that has a block for each body, under the least number of its blocks."""
    cells_by = {number: cells for number, cells in stack}
    return [(body[0], sorted([cell for number in body for cell in cells_by[number]])) for body in bodies]


def spread(bodies, firsts):
    """All blocks of the bodies that have these least numbers."""
    return sorted([number for body in bodies if body[0] in firsts for number in body])


def is_torn(bodies, blocks):
    """Whether a body is in part among some blocks."""
    return any(0 < len([number for number in body if number in blocks]) < len(body) for body in bodies)


def body_knots(stack, bodies, lines):
    """The knots of the bodies, by their first blocks."""
    return [spread(bodies, knot) for knot in knots(stack_of_bodies(stack, bodies), lines)]


def body_along(stack, bodies, way, blocks):
    """The least group of whole bodies that has the blocks and goes out."""
    firsts = [body[0] for body in bodies if any(number in blocks for number in body)]
    return spread(bodies, along(stack_of_bodies(stack, bodies), way, firsts))


def body_core(stack, bodies, lines):
    """The core of the bodies by both ways of each line."""
    open_ways = [way for line in lines for way in ways_of(line)]
    return spread(bodies, core(stack_of_bodies(stack, bodies), open_ways))


def body_plan(stack, bodies, lines):
    """A plan of the bodies."""
    return [(way, spread(bodies, group)) for way, group in plan(stack_of_bodies(stack, bodies), lines)]


def body_press(stack, bodies, way):
    """For each cell the one to which it goes when the bodies are pressed."""
    whole = stack_of_bodies(stack, bodies)
    steps = dict(shifts(whole, way))
    return {cell: step(cell, way, steps[number]) for number, cells in whole for cell in cells}


def first_bad(stack, bodies, lines, pulls):
    """The place of the first pull that cannot be done on whole bodies, one behind the other; None where all can."""
    torn = [at for at, (way, group) in enumerate(pulls) if is_torn(bodies, group)]
    bound = min(torn, default=None)
    try:
        judged(stack, lines, pulls[:bound])
    except BadPull as refusal:
        return refusal.at
    return bound
