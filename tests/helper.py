"""What several test files use."""

import signal
import unittest
from contextlib import contextmanager

GREAT = 10 ** 30 - 1

# The two turns that DOC.md tells, of which all others come.
TOLD_TURNS = [("north", "west", "up"), ("north", "up", "east")]

VECTORS = {
    "east": (1, 0, 0), "west": (-1, 0, 0),
    "north": (0, 1, 0), "south": (0, -1, 0),
    "up": (0, 0, 1), "down": (0, 0, -1),
}

NO_WAYS = ["", " ", "long", "broad", "high", "East", "EAST", " east", "east ", "eas", "easts", "east\n",
           "left", "0", "east,west", "east west"]
NO_LINES = ["", " ", "east", "west", "north", "south", "up", "down", "Long", "LONG", " long", "long ", "lon",
            "longs", "long\n", "deep", "0", "long,broad"]


@contextmanager
def at_once(seconds=10):
    """Fails where what stands in it takes longer, instead of waiting for its end."""
    def too_long(number, frame):
        raise AssertionError(f"not told within {seconds} seconds")

    before = signal.signal(signal.SIGALRM, too_long)
    signal.alarm(seconds)
    try:
        yield
    finally:
        signal.alarm(0)
        signal.signal(signal.SIGALRM, before)


def led_vector(cell, turn):
    """A cell turned by the words of [4] over plain vectors: apart from the program, to judge it by."""
    return tuple(sum(number * VECTORS[way][k] for number, way in zip(cell, turn)) for k in range(3))


def all_turns():
    """All triples that come of the told ones, apart from the program."""
    names = {vector: way for way, vector in VECTORS.items()}
    found = list(TOLD_TURNS)
    for turn in found:
        for told in TOLD_TURNS:
            both = tuple(names[led_vector(VECTORS[way], told)] for way in turn)
            if both not in found:
                found.append(both)
    return sorted(found)


class WoodCase(unittest.TestCase):
    """A test case that also looks at kinds: True is no 1, and a tuple is no list."""

    def same(self, told, wanted):
        self.assertEqual(told, wanted)
        self.assertEqual(repr(told), repr(wanted))

    def refused(self, kind, word, call, *handed):
        with self.assertRaises(kind) as caught:
            call(*handed)
        self.assertIs(type(caught.exception), kind)
        self.assertEqual(caught.exception.word, word)
        return caught.exception
