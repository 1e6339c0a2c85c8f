"""Promise [8] as far as it speaks of rings; with [1], [2], [6] and [7]."""

import itertools
import unittest

from gripwood.along import row
from gripwood.errors import BadWay
from gripwood.rings import rings
from tests.helper import BACKS, GREAT, NO_WAYS, WAYS, WoodCase, at_once, pairs_on, wild_stacks

CLASPED = [(3, [(0, 0, 0), (2, 0, 0)]), (9, [(1, 0, 0)])]
# To the east 0 leads to 5, 5 to 2, 2 to 0, each by a lane of its own; 7 lies ahead of 5, and 8 beside.
ROUND = [(0, [(0, 0, 0), (9, 2, 0)]), (2, [(0, 2, 0), (9, 1, 0)]), (5, [(0, 1, 0), (9, 0, 0)]),
         (7, [(12, 0, 0)]), (8, [(0, 7, 7)])]
WILD = wild_stacks("rings", 80, most_cells=4)


def judged_rings(stack, way):
    """The rings by the words of [8], from all rows."""
    numbers = list(dict(stack))
    leads = {(number, number) for number in numbers} | set(pairs_on(stack, way))
    for through, one, other in itertools.product(numbers, repeat=3):
        if (one, through) in leads and (through, other) in leads:
            leads.add((one, other))
    rings_of = [[other for other in numbers if (one, other) in leads and (other, one) in leads] for one in numbers]
    return [ring for at, ring in enumerate(rings_of) if ring[0] == numbers[at]]


def big_ring(many):
    """Blocks of which each leads to the next one to the east, each by a lane of its own, the last to the first."""
    return [(number, [(0, number, 0), (1, (number - 1) % many, 0)]) for number in range(many)]


class Rings(WoodCase):
    def test_the_empty_stack_and_one_block(self):
        for way in WAYS:
            self.same(rings([], way), [])
            self.same(rings([(4, [(0, 0, 0), (3, 0, 0)])], way), [[4]])

    def test_by_name(self):
        self.same(rings(CLASPED, "east"), [[3, 9]])
        self.same(rings(CLASPED, "up"), [[3], [9]])
        self.same(rings(ROUND, "east"), [[0, 2, 5], [7], [8]])
        self.same(rings(ROUND, "west"), [[0, 2, 5], [7], [8]])
        self.same(rings(ROUND, "up"), [[0], [2], [5], [7], [8]])

    def test_two_rings_and_a_row_between_them(self):
        stack = [(1, [(0, 0, 0), (2, 0, 0)]), (2, [(7, 0, 0)]), (3, [(6, 0, 0), (8, 0, 0)]), (4, [(1, 0, 0)]),
                 (6, [(4, 0, 0)])]
        self.same(rings(stack, "east"), [[1, 4], [2, 3], [6]])
        self.same(rings(stack, "west"), [[1, 4], [2, 3], [6]])

    def test_by_the_words(self):
        for stack, way in itertools.product(WILD, WAYS):
            with self.subTest(stack=stack, way=way):
                self.same(rings(stack, way), judged_rings(stack, way))

    def test_wild_stacks_have_rings_of_several_blocks(self):
        found = [len(ring) for stack in WILD for ring in rings(stack, "east")]
        self.assertTrue({1, 2, 3} <= set(found))

    def test_each_block_in_just_one_by_first_blocks(self):
        for stack, way in itertools.product(WILD, WAYS):
            with self.subTest(stack=stack, way=way):
                told = rings(stack, way)
                self.assertEqual(sorted(number for ring in told for number in ring), list(dict(stack)))
                self.assertEqual(told, sorted(told, key=lambda ring: ring[0]))
                self.assertTrue(all(ring == sorted(ring) for ring in told))

    def test_the_same_ones_on_the_way_back(self):
        for stack, way in itertools.product([CLASPED, ROUND, *WILD], WAYS):
            with self.subTest(stack=stack, way=way):
                self.same(rings(stack, BACKS[way]), rings(stack, way))

    def test_rows_lead_to_and_fro_just_within_a_ring(self):
        for stack, way in itertools.product(WILD[:20], WAYS):
            told = rings(stack, way)
            for one, other in itertools.combinations(dict(stack), 2):
                with self.subTest(stack=stack, way=way, pair=(one, other)):
                    both = row(stack, way, one, other) and row(stack, way, other, one)
                    self.assertEqual(bool(both), any(one in ring and other in ring for ring in told))

    def test_many_blocks(self):
        with at_once():
            self.same(rings(big_ring(2000), "east"), [list(range(2000))])
            self.same(rings(big_ring(2000)[:-1], "east"), [[number] for number in range(1999)])
            self.same(rings([(number, [(number, 0, 0)]) for number in range(2000)], "west"),
                      [[number] for number in range(2000)])

    def test_far_apart_and_great_numbers(self):
        first, last = 10 ** 28 + 1, 10 ** 29 - 1
        for far in (10 ** 12, 10 ** 27, GREAT):
            with self.subTest(far), at_once():
                stack = [(5, [(0, 0, far), (1, 1, 1)]), (first, [(0, 0, -far), (1, 1, far)]), (last, [(0, 0, 0)])]
                self.same(rings(stack, "up"), [[5, first, last]])
                self.same(rings(stack[:2], "up"), [[5, first]])
                self.same(rings(stack[1:], "up"), [[first], [last]])
                self.same(rings(stack, "east"), [[5], [first], [last]])


class Refusals(WoodCase):
    def test_no_way(self):
        for text in NO_WAYS:
            with self.subTest(text):
                self.refused(BadWay, "bad way", rings, ROUND, text)
                self.refused(BadWay, "bad way", rings, [], text)


class Kept(WoodCase):
    def test_nothing_is_kept(self):
        for stack, way in itertools.product(([], CLASPED, ROUND, *WILD[:10]), WAYS):
            with self.subTest(stack=stack, way=way):
                self.keeps_nothing(rings, stack, way)


if __name__ == "__main__":
    unittest.main()
