"""What several test files use."""

import copy
import itertools
import random
import signal
import unittest
from contextlib import contextmanager

GREAT = 10 ** 30 - 1

# The two turns that DOC.md tells, of which all others come.
TOLD_TURNS = [("north", "west", "up"), ("north", "up", "east")]

VECTORS = {
    "east": (1, 0, 0), "west": (-1, 0, 0),
    "north": (0, 1, 0), "south": (0, -1, 0),
    "up": (0, 0, 1), "down": (0, 0, -1),
}

WAYS = list(VECTORS)
BACKS = {"east": "west", "west": "east", "north": "south", "south": "north", "up": "down", "down": "up"}

LINE_WAYS = {"long": ["east", "west"], "broad": ["north", "south"], "high": ["up", "down"]}
LINES = list(LINE_WAYS)

NO_WAYS = ["", " ", "long", "broad", "high", "East", "EAST", " east", "east ", "eas", "easts", "east\n",
           "left", "0", "east,west", "east west"]
NO_LINES = ["", " ", "east", "west", "north", "south", "up", "down", "Long", "LONG", " long", "long ", "lon",
            "longs", "long\n", "deep", "0", "long,broad"]


@contextmanager
def at_once(seconds=10):
    """Fails where what stands in it takes longer, instead of waiting for its end."""
    def too_long(number, frame):
        raise AssertionError(f"not told within {seconds} seconds")

    before = signal.signal(signal.SIGALRM, too_long)
    signal.alarm(seconds)
    try:
        yield
    finally:
        signal.alarm(0)
        signal.signal(signal.SIGALRM, before)


def led_vector(cell, turn):
    """A cell turned by the words of [4] over plain vectors: apart from the program, to judge it by."""
    return tuple(sum(number * VECTORS[way][k] for number, way in zip(cell, turn)) for k in range(3))


def all_turns():
    """All triples that come of the told ones, apart from the program."""
    names = {vector: way for way, vector in VECTORS.items()}
    found = list(TOLD_TURNS)
    for turn in found:
        for told in TOLD_TURNS:
            both = tuple(names[led_vector(VECTORS[way], told)] for way in turn)
            if both not in found:
                found.append(both)
    return sorted(found)


def place_on(cell, way):
    return sum(number * by for number, by in zip(cell, VECTORS[way]))


def lane_on(cell, way):
    return tuple(number for number, by in zip(cell, VECTORS[way]) if by == 0)


def meetings_on(stack, way, one, other):
    """All pairs of cells by which the other block lies ahead of the one, by the words of [7]."""
    blocks = dict(stack)
    return [(cell, farther) for cell in blocks[one] for farther in blocks[other]
            if lane_on(cell, way) == lane_on(farther, way) and place_on(cell, way) < place_on(farther, way)]


def pairs_on(stack, way):
    """All pairs of [7], rising, apart from the program."""
    return [pair for pair in itertools.permutations(sorted(dict(stack)), 2) if meetings_on(stack, way, *pair)]


def leaves_on(stack, way, group):
    """Whether a group goes out, by the words of [8]."""
    return not any(meetings_on(stack, way, one, other) for one in group for other in dict(stack) if other not in group)


def pulls_on(stack, lines):
    """All pulls on open lines, by the words of [10]."""
    return [(way, group) for line in lines for way in LINE_WAYS[line] for group in groups_of(stack)
            if 0 < len(group) < len(stack) and leaves_on(stack, way, group)]


def subsets(things):
    """All lists of some of the things, from none of them to all."""
    return [list(some) for many in range(len(things) + 1) for some in itertools.combinations(things, many)]


def part(stack, group):
    return [(number, cells) for number, cells in stack if number in group]


def led_way(way, turn):
    return {vector: name for name, vector in VECTORS.items()}[led_vector(VECTORS[way], turn)]


def led_line(line, turn):
    return next(name for name in LINES if led_way(LINE_WAYS[line][0], turn) in LINE_WAYS[name])


def led_stack(stack, turn, by):
    """The stack turned, and then shifted."""
    return [(number, sorted(tuple(map(sum, zip(led_vector(cell, turn), by))) for cell in cells))
            for number, cells in stack]


def groups_of(stack):
    """All groups of a stack, each one rising, from the one of no block to the one of all."""
    return subsets([number for number, cells in stack])


def shuffled(group, chance):
    """The same group in another order, with a number twice where it has one."""
    mixed = group + group[:1]
    chance.shuffle(mixed)
    return mixed


def wild_stacks(seed, many, most_blocks=5, most_cells=3, sides=(3, 3, 2), least_cells=1):
    """So many stacks of blocks thrown together by chance, yet the same ones for the same seed."""
    chance = random.Random(seed)
    stacks = []
    for at in range(many):
        cells = [tuple(number - 1 for number in cell) for cell in itertools.product(*map(range, sides))]
        chance.shuffle(cells)
        numbers = sorted(chance.sample(range(30), chance.randint(1, most_blocks)))
        stacks.append([(number, sorted(cells.pop() for at in range(chance.randint(least_cells, most_cells))))
                       for number in numbers])
    return stacks


def spoil(told):
    """Changes every list within what was told or handed in."""
    if isinstance(told, (list, tuple)):
        for within in told:
            spoil(within)
    if isinstance(told, list):
        told.reverse()
        told.append("spoilt")
        del told[:1]


class WoodCase(unittest.TestCase):
    """A test case that also looks at kinds: True is no 1, and a tuple is no list."""

    def same(self, told, wanted):
        self.assertEqual(told, wanted)
        self.assertEqual(repr(told), repr(wanted))

    def refused(self, kind, word, call, *handed):
        with self.assertRaises(kind) as caught:
            call(*handed)
        self.assertIs(type(caught.exception), kind)
        self.assertEqual(caught.exception.word, word)
        return caught.exception

    def is_stack(self, told, numbers):
        """The form of [6], with just these numbers."""
        self.assertIs(type(told), list)
        self.assertEqual([number for number, cells in told], numbers)
        for block in told:
            self.assertIs(type(block), tuple)
            self.assertIs(type(block[1]), list)
            self.assertEqual(block[1], sorted(block[1]))
            self.assertEqual({(type(cell), len(cell)) for cell in block[1]}, {(tuple, 3)})
        cells = [cell for number, cells in told for cell in cells]
        self.assertEqual(len(cells), len(set(cells)))

    def keeps_nothing(self, call, *handed):
        """What is handed in stays as it was, and neither it nor what is told is kept by the program or by the other."""
        given = copy.deepcopy(handed)
        told = call(*given)
        self.same(given, handed)
        wanted = copy.deepcopy(told)
        spoil(given)
        self.same(told, wanted)
        given = copy.deepcopy(handed)
        spoil(call(*given))
        self.same(given, handed)
        self.same(call(*given), wanted)
