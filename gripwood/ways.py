"""The six ways, the three lines, and where cells lie along them."""

from gripwood.errors import BadLine, BadWay

LINES = ("long", "broad", "high")

# Which of a cell's numbers a step on the way changes, and by how much; the order is that of the ways.
STEPS = {
    "east": (0, 1),
    "west": (0, -1),
    "north": (1, 1),
    "south": (1, -1),
    "up": (2, 1),
    "down": (2, -1),
}


def ways():
    """The six ways, in their order."""
    return list(STEPS)


def lines():
    """The three lines, in their order."""
    return list(LINES)


def check_way(way):
    """Refuses a text that is no way."""
    if way not in STEPS:
        raise BadWay(f"{way!r} is no way")


def check_line(line):
    """Refuses a text that is no line."""
    if line not in LINES:
        raise BadLine(f"{line!r} is no line")


def ordered_ways(chosen):
    """The ways of a list once each, in their order."""
    for way in chosen:
        check_way(way)
    return [way for way in STEPS if way in chosen]


def forth_ways(chosen):
    """For each line of a list, once each and in their order, the way that makes a cell's number greater."""
    for line in chosen:
        check_line(line)
    return [ways_of(line)[0] for line in LINES if line in chosen]


def step_on(way):
    """The pair of STEPS for a way."""
    check_way(way)
    return STEPS[way]


def back(way):
    """The way that leads back."""
    forth, other = ways_of(line_of(way))
    return other if way == forth else forth


def line_of(way):
    """The line on which a way leads."""
    at, by = step_on(way)
    return LINES[at]


def ways_of(line):
    """The two ways of a line, the one that makes a cell's number greater first."""
    check_line(line)
    return [way for way in STEPS if LINES[STEPS[way][0]] == line]


def step(cell, way, many):
    """The cell that is many steps away on a way."""
    at, by = step_on(way)
    numbers = list(cell)
    numbers[at] += by * many
    return tuple(numbers)


def place(cell, way):
    """How far a cell lies on a way."""
    at, by = step_on(way)
    return by * cell[at]


def lane(cell, way):
    """The pair of the two numbers of a cell that no step on a way changes."""
    at, by = step_on(way)
    return cell[:at] + cell[at + 1:]
