"""The turns: whither east, north and up are led, and cells that are turned about (0, 0, 0)."""

from gripwood.errors import BadTurn
from gripwood.ways import back, place, ways

# The ways on which the three numbers of a cell are counted.
COUNTED = ("east", "north", "up")

# Written out, as every turn that is handed in is looked for here; the tests make them of the two told ones.
TURNS = (
    ("down", "east", "south"),
    ("down", "north", "east"),
    ("down", "south", "west"),
    ("down", "west", "north"),
    ("east", "down", "north"),
    ("east", "north", "up"),
    ("east", "south", "down"),
    ("east", "up", "south"),
    ("north", "down", "west"),
    ("north", "east", "down"),
    ("north", "up", "east"),
    ("north", "west", "up"),
    ("south", "down", "east"),
    ("south", "east", "up"),
    ("south", "up", "west"),
    ("south", "west", "down"),
    ("up", "east", "north"),
    ("up", "north", "west"),
    ("up", "south", "east"),
    ("up", "west", "south"),
    ("west", "down", "south"),
    ("west", "north", "down"),
    ("west", "south", "up"),
    ("west", "up", "north"),
)


def is_turn(turn):
    """Whether a triple of any texts is a turn."""
    return turn in TURNS


def turns():
    """All turns, sorted."""
    return list(TURNS)


def check_turn(turn):
    """Refuses a triple of texts that is no turn."""
    if not is_turn(turn):
        raise BadTurn(f"{turn!r} is no turn")


def led(way, turn):
    """Whither a turn leads a way."""
    if way in COUNTED:
        return turn[COUNTED.index(way)]
    return back(turn[COUNTED.index(back(way))])


def turn_back(turn):
    """The turn that leads back whatever a turn leads."""
    check_turn(turn)
    origins = {led(way, turn): way for way in ways()}
    return tuple([origins[way] for way in COUNTED])


def joined(one, other):
    """The turn that does one and then the other."""
    check_turn(one)
    check_turn(other)
    return tuple([led(way, other) for way in one])


def turned(cell, turn):
    """The cell to which a turn leads a cell."""
    return turned_cells([cell], turn)[0]


def turned_cells(cells, turn):
    """The cells to which a turn leads some cells, in the same order."""
    # A number of a turned cell is how far the cell lay on the way that is led to where this number is counted.
    east, north, up = turn_back(turn)
    return [(place(cell, east), place(cell, north), place(cell, up)) for cell in cells]
