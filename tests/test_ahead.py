"""Promises [6] and [7], with [1] and [2] as far as they speak of blocks that lie ahead."""

import itertools
import unittest

from gripwood.ahead import gap, meets, pairs
from gripwood.errors import BadWay, NoBlock
from tests.helper import (BACKS, GREAT, NO_WAYS, VECTORS, WAYS, WoodCase, at_once, lane_on, meetings_on, pairs_on,
                          place_on, wild_stacks)

# A block that does not hang together, with another one between its cells: each lies ahead of the other.
CLASPED = [(3, [(0, 0, 0), (2, 0, 0)]), (9, [(1, 0, 0)])]
# Three blocks in one lane, in an order that is not that of their numbers.
LANE = [(2, [(0, 0, 0)]), (5, [(9, 0, 0)]), (40, [(4, 0, 0)])]
WILD = wild_stacks("ahead", 60)


def along_way(way, places):
    """A stack of blocks with one cell each, at these places of one lane of a way."""
    return [(number, [tuple(by * at + 7 * (by == 0) for by in VECTORS[way])]) for number, at in enumerate(places)]


class Pairs(WoodCase):
    def test_the_empty_stack_and_one_block(self):
        for way in WAYS:
            with self.subTest(way):
                self.same(pairs([], way), [])
                self.same(pairs([(0, [(0, 0, 0)])], way), [])
                self.same(pairs([(8, [(0, 0, 0), (0, 0, 1), (0, 4, 0), (5, 0, 0)])], way), [])

    def test_all_blocks_farther_in_the_lane_lie_ahead(self):
        self.same(pairs(LANE, "east"), [(2, 5), (2, 40), (40, 5)])
        self.same(pairs(LANE, "west"), [(5, 2), (5, 40), (40, 2)])
        for way in ("north", "south", "up", "down"):
            self.same(pairs(LANE, way), [])

    def test_on_each_way(self):
        for way in WAYS:
            stack = along_way(way, [2, -1, 5])
            for other in WAYS:
                with self.subTest((way, other)):
                    wanted = {way: [(0, 2), (1, 0), (1, 2)], BACKS[way]: [(0, 1), (2, 0), (2, 1)]}
                    self.same(pairs(stack, other), wanted.get(other, []))

    def test_each_ahead_of_the_other(self):
        self.same(pairs(CLASPED, "east"), [(3, 9), (9, 3)])
        self.same(pairs(CLASPED, "west"), [(3, 9), (9, 3)])
        self.same(pairs(CLASPED, "up"), [])

    def test_each_ahead_of_the_other_in_unlike_lanes(self):
        stack = [(0, [(0, 0, 0), (1, 1, 0)]), (1, [(0, 1, 0), (1, 0, 0)])]
        self.same(pairs(stack, "east"), [(0, 1), (1, 0)])
        self.same(pairs(stack, "north"), [(0, 1), (1, 0)])
        self.same(pairs(stack, "up"), [])

    def test_lanes_that_are_near_are_not_the_same(self):
        self.same(pairs([(0, [(0, 0, 0)]), (1, [(1, 1, 0)]), (2, [(2, 0, 1)]), (3, [(3, -1, 0)])], "east"), [])

    def test_the_lane_has_its_numbers_in_their_order(self):
        self.same(pairs([(0, [(0, 2, 5)]), (1, [(1, 5, 2)])], "east"), [])
        self.same(pairs([(0, [(2, 0, 5)]), (1, [(5, 1, 2)])], "north"), [])
        self.same(pairs([(0, [(2, 5, 0)]), (1, [(5, 2, 1)])], "up"), [])

    def test_by_the_words(self):
        for stack, way in itertools.product(WILD, WAYS):
            with self.subTest(stack=stack, way=way):
                self.same(pairs(stack, way), pairs_on(stack, way))

    def test_turned_about_on_the_way_back(self):
        for stack, way in itertools.product(WILD, WAYS):
            with self.subTest(stack=stack, way=way):
                self.same(pairs(stack, BACKS[way]), sorted((other, one) for one, other in pairs(stack, way)))

    def test_a_pair_of_several_lanes_is_told_once(self):
        wall = [(x, y, 0) for x, y in itertools.product(range(4), range(4))]
        self.same(pairs([(0, wall), (1, [(x, y, 5) for x, y, z in wall])], "up"), [(0, 1)])

    def test_far_apart_and_great_numbers(self):
        first, last = 10 ** 28 + 1, 10 ** 29 - 1
        for far in (10 ** 12, 10 ** 27, GREAT):
            with self.subTest(far), at_once():
                stack = [(0, [(-far, 0, 0)]), (first, [(0, 0, 0), (0, far, 0)]), (last, [(far, 0, 0), (far, far, 0)])]
                self.same(pairs(stack, "east"), [(0, first), (0, last), (first, last)])
                self.same(pairs(stack, "west"), [(first, 0), (last, 0), (last, first)])
                self.same(pairs(stack, "north"), [])


class Meets(WoodCase):
    def check(self, stack, way, one, other):
        told = meets(stack, way, one, other)
        if not meetings_on(stack, way, one, other):
            self.assertIsNone(told)
            return
        self.assertIs(type(told), tuple)
        cell, farther = told
        self.assertIn(cell, dict(stack)[one])
        self.assertIn(farther, dict(stack)[other])
        self.assertEqual(lane_on(cell, way), lane_on(farther, way))
        self.assertLess(place_on(cell, way), place_on(farther, way))

    def test_only_one_pair_of_cells(self):
        self.same(meets(LANE, "east", 2, 5), ((0, 0, 0), (9, 0, 0)))
        self.same(meets(LANE, "west", 5, 2), ((9, 0, 0), (0, 0, 0)))
        self.same(meets(LANE, "east", 5, 2), None)
        self.same(meets(LANE, "up", 2, 5), None)
        self.same(meets(CLASPED, "east", 3, 9), ((0, 0, 0), (1, 0, 0)))
        self.same(meets(CLASPED, "east", 9, 3), ((1, 0, 0), (2, 0, 0)))

    def test_by_the_words(self):
        for stack, way in itertools.product(WILD + [LANE, CLASPED], WAYS):
            for one, other in itertools.permutations(dict(stack), 2):
                with self.subTest(stack=stack, way=way, pair=(one, other)):
                    self.check(stack, way, one, other)

    def test_far_apart(self):
        for far in (10 ** 12, 10 ** 27, GREAT):
            with self.subTest(far), at_once():
                stack = [(0, [(0, 0, -far)]), (10 ** 29 - 1, [(0, 0, far), (5, 0, 0)])]
                self.same(meets(stack, "up", 0, 10 ** 29 - 1), ((0, 0, -far), (0, 0, far)))
                self.same(meets(stack, "up", 10 ** 29 - 1, 0), None)


class Gap(WoodCase):
    def test_nought_and_more(self):
        for way, many in itertools.product(WAYS, (0, 1, 5)):
            with self.subTest((way, many)):
                stack = along_way(way, [-2, many - 1])
                self.same(gap(stack, way, 0, 1), many)
                self.same(gap(stack, BACKS[way], 1, 0), many)
                self.same(gap(stack, way, 1, 0), None)

    def test_no_matter_what_is_between(self):
        self.same(gap(LANE, "east", 2, 5), 8)
        self.same(gap([(0, [(0, 0, 0), (1, 0, 0)]), (1, [(4, 0, 0)]), (2, [(2, 0, 0), (3, 0, 0)])], "east", 0, 1), 2)

    def test_the_least_of_several_lanes(self):
        stack = [(0, [(0, 0, 0), (0, 1, 0), (0, 2, 0)]), (1, [(3, 1, 0), (6, 0, 0), (9, 2, 0)])]
        self.same(gap(stack, "east", 0, 1), 2)

    def test_the_least_in_one_lane(self):
        stack = [(0, [(0, 0, 0), (5, 0, 0)]), (1, [(3, 0, 0), (9, 0, 0)])]
        self.same(gap(stack, "east", 0, 1), 2)
        self.same(gap(stack, "east", 1, 0), 1)

    def test_none_where_the_other_lies_beside_or_behind(self):
        self.same(gap([(0, [(0, 0, 0)]), (1, [(1, 1, 0)])], "east", 0, 1), None)
        self.same(gap(LANE, "east", 5, 40), None)

    def test_by_the_words(self):
        for stack, way in itertools.product(WILD, WAYS):
            for one, other in itertools.permutations(dict(stack), 2):
                with self.subTest(stack=stack, way=way, pair=(one, other)):
                    wanted = [place_on(farther, way) - place_on(cell, way) - 1
                              for cell, farther in meetings_on(stack, way, one, other)]
                    self.same(gap(stack, way, one, other), min(wanted, default=None))

    def test_far_apart(self):
        for far in (10 ** 12, 10 ** 27, GREAT):
            with self.subTest(far), at_once():
                stack = [(10 ** 28, [(0, -far, 0)]), (10 ** 29 - 1, [(0, far, 0), (5, 0, 0)])]
                self.same(gap(stack, "north", 10 ** 28, 10 ** 29 - 1), 2 * far - 1)
                self.same(gap(stack, "south", 10 ** 28, 10 ** 29 - 1), None)


class Refusals(WoodCase):
    def test_no_block(self):
        for call, number in itertools.product((meets, gap), (-1, 0, 4, GREAT)):
            with self.subTest(call=call.__name__, number=number):
                self.refused(NoBlock, "no block", call, LANE, "east", number, 5)
                self.refused(NoBlock, "no block", call, LANE, "east", 5, number)
                self.refused(NoBlock, "no block", call, LANE, "up", 5, number)
                self.refused(NoBlock, "no block", call, [], "east", number, number + 1)

    def test_no_way(self):
        for text in NO_WAYS:
            with self.subTest(text):
                self.refused(BadWay, "bad way", pairs, LANE, text)
                self.refused(BadWay, "bad way", pairs, [], text)
                for call in (meets, gap):
                    self.refused(BadWay, "bad way", call, LANE, text, 2, 5)

    def test_no_way_is_refused_ahead_of_no_block(self):
        for call in (meets, gap):
            self.refused(BadWay, "bad way", call, LANE, "left", 3, 5)
            self.refused(BadWay, "bad way", call, LANE, "left", 5, 3)
            self.refused(BadWay, "bad way", call, [], "left", 0, 1)


class Kept(WoodCase):
    def test_nothing_is_kept(self):
        for stack in ([], CLASPED, LANE, *WILD[:10]):
            for way in WAYS:
                with self.subTest(stack=stack, way=way):
                    self.keeps_nothing(pairs, stack, way)
                    for one, other in itertools.permutations(dict(stack), 2):
                        self.keeps_nothing(meets, stack, way, one, other)
                        self.keeps_nothing(gap, stack, way, one, other)


if __name__ == "__main__":
    unittest.main()
