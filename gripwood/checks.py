"""What a workshop bounds, and checks that know nothing of the workshop itself."""

from gripwood.along import stops
from gripwood.errors import BadCell, BadMeasure, Stopped, TooMany, Touch

FARTHEST = 30
MOST_BLOCKS = 24
MOST_CELLS = 240
MOST_PEGS = 40
MOST_DEEDS = 200
SHORTEST_PEG = 2
LONGEST_PEG = 12


def check_bounds(cells):
    """Refuses cells with a number out of bounds."""
    for cell in cells:
        if any(abs(number) > FARTHEST for number in cell):
            raise BadCell(f"{cell} lies out of bounds")


def check_cells(cells):
    """Refuses no cells, a cell that comes twice, and cells out of bounds."""
    if not cells or len(set(cells)) < len(cells):
        raise BadCell("no cells, or one comes twice")
    check_bounds(cells)


def check_untaken(cells, owners):
    """Refuses cells that are taken, by the dict of who owns which cell."""
    taken = [cell for cell in cells if cell in owners]
    if taken:
        raise Touch(min(taken))


def check_room(many_blocks, many_cells):
    """Refuses more blocks and cells than a pile may have."""
    if many_blocks > MOST_BLOCKS or many_cells > MOST_CELLS:
        raise TooMany("a pile would have too many blocks or cells")


def check_measure(many):
    """Refuses a peg through too few or too many cells."""
    if many < SHORTEST_PEG or many > LONGEST_PEG:
        raise BadMeasure(f"no peg goes through {many} cells")


def check_pegs(many):
    """Refuses more pegs than there may be."""
    if many > MOST_PEGS:
        raise TooMany("there would be too many pegs")


def check_deeds(many):
    """Refuses more deeds than may be done."""
    if many > MOST_DEEDS:
        raise TooMany("too many deeds were done")


def check_way_out(stack, way, group):
    """Refuses a group that does not go out."""
    met = stops(stack, way, group)
    if met:
        one, other = met[0]
        raise Stopped(one, other)
