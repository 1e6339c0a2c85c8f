"""Promise [8] as far as it speaks of groups that go out, and of rows; with [1], [2], [6] and [7]."""

import itertools
import random
import unittest

from gripwood.along import along, goes_out, row, stops
from gripwood.errors import BadWay, NoBlock
from tests.helper import (BACKS, GREAT, NO_WAYS, WAYS, WoodCase, at_once, groups_of, leaves_on, pairs_on, shuffled,
                          wild_stacks)

CLASPED = [(3, [(0, 0, 0), (2, 0, 0)]), (9, [(1, 0, 0)])]
# To the east 1 leads to 4, 4 to 6 and 8, by a lane each; 7 lies beside all of them.
BENT = [(1, [(0, 0, 0)]), (4, [(1, 0, 0), (1, 1, 0), (1, 2, 0)]), (6, [(2, 1, 0)]), (7, [(0, 9, 9)]),
        (8, [(5, 2, 0)])]
WILD = wild_stacks("along", 40)


def chain(many, far=1):
    """Blocks of which each only leads to the next one to the east, each by a lane of its own."""
    return [(number, [(number * far, number, 0), (number * far, number + 1, 0)]) for number in range(many)]


class GoesOut(WoodCase):
    def test_no_block_and_all_blocks(self):
        for stack, way in itertools.product(([], CLASPED, BENT, *WILD), WAYS):
            with self.subTest(stack=stack, way=way):
                self.same(goes_out(stack, way, []), True)
                self.same(goes_out(stack, way, list(dict(stack))), True)

    def test_by_name(self):
        self.same(goes_out(BENT, "east", [1]), False)
        self.same(goes_out(BENT, "east", [1, 4]), False)
        self.same(goes_out(BENT, "east", [1, 4, 6, 8]), True)
        self.same(goes_out(BENT, "west", [1]), True)
        self.same(goes_out(BENT, "east", [7]), True)
        self.same(goes_out(CLASPED, "east", [3]), False)
        self.same(goes_out(CLASPED, "west", [3]), False)
        self.same(goes_out(CLASPED, "up", [3]), True)

    def test_all_groups_by_the_words(self):
        chance = random.Random("orders")
        for stack, way in itertools.product(WILD, WAYS):
            for group in groups_of(stack):
                with self.subTest(stack=stack, way=way, group=group):
                    wanted = leaves_on(stack, way, group)
                    self.same(goes_out(stack, way, group), wanted)
                    self.same(goes_out(stack, way, shuffled(group, chance)), wanted)

    def test_stopped_past_wood_of_its_own(self):
        stack = [(0, [(0, 0, 0)]), (1, [(1, 0, 0)]), (2, [(2, 0, 0)])]
        self.same(goes_out(stack, "east", [0, 1]), False)
        self.same(goes_out(stack, "east", [0, 2]), False)
        self.same(goes_out(stack, "east", [2, 1]), True)


class Stops(WoodCase):
    def test_by_name(self):
        self.same(stops(BENT, "east", [4, 1]), [(4, 6), (4, 8)])
        self.same(stops(BENT, "east", [1, 1, 8]), [(1, 4)])
        self.same(stops(BENT, "east", []), [])
        self.same(stops(BENT, "east", [1, 4, 6, 7, 8]), [])
        self.same(stops([], "east", []), [])
        self.same(stops(CLASPED, "west", [9]), [(9, 3)])

    def test_also_past_others(self):
        stack = [(0, [(0, 0, 0)]), (1, [(5, 0, 0)]), (2, [(2, 0, 0)])]
        self.same(stops(stack, "east", [0]), [(0, 1), (0, 2)])
        self.same(stops(stack, "east", [0, 2]), [(0, 1), (2, 1)])

    def test_all_groups_by_the_words(self):
        chance = random.Random("orders")
        for stack, way in itertools.product(WILD, WAYS):
            for group in groups_of(stack):
                with self.subTest(stack=stack, way=way, group=group):
                    wanted = [(one, other) for one, other in pairs_on(stack, way)
                              if one in group and other not in group]
                    self.same(stops(stack, way, shuffled(group, chance)), wanted)


class Along(WoodCase):
    def test_by_name(self):
        self.same(along(BENT, "east", [1]), [1, 4, 6, 8])
        self.same(along(BENT, "east", [7, 8]), [7, 8])
        self.same(along(BENT, "west", [8]), [1, 4, 8])
        self.same(along(CLASPED, "east", [9]), [3, 9])
        self.same(along(CLASPED, "north", [9]), [9])

    def test_no_block_and_all_blocks(self):
        for stack, way in itertools.product(([], CLASPED, BENT), WAYS):
            with self.subTest(stack=stack, way=way):
                self.same(along(stack, way, []), [])
                self.same(along(stack, way, list(dict(stack))[::-1]), list(dict(stack)))

    def test_the_least_of_all_groups_that_have_it_and_go_out(self):
        chance = random.Random("orders")
        for stack, way in itertools.product(WILD, WAYS):
            leaving = [group for group in groups_of(stack) if leaves_on(stack, way, group)]
            for group in groups_of(stack):
                with self.subTest(stack=stack, way=way, group=group):
                    told = along(stack, way, shuffled(group, chance))
                    having = [other for other in leaving if set(group) <= set(other)]
                    self.assertIn(told, having)
                    self.assertTrue(all(set(told) <= set(other) for other in having))

    def test_a_long_chain(self):
        stack = chain(1500)
        with at_once():
            self.same(along(stack, "east", [1499, 700]), list(range(700, 1500)))
            self.same(along(stack, "west", [700]), list(range(701)))


class Rows(WoodCase):
    def check(self, stack, way, one, other, longest):
        """A row by the words of [8], and as long as the shortest one that a search through all pairs finds."""
        told = row(stack, way, one, other)
        if longest is None:
            self.assertIsNone(told)
            return
        self.assertIs(type(told), list)
        self.assertEqual((told[0], told[-1], len(told)), (one, other, longest))
        for step in zip(told, told[1:]):
            self.assertIn(step, pairs_on(stack, way))

    def test_by_name(self):
        self.same(row(BENT, "east", 1, 8), [1, 4, 8])
        self.same(row(BENT, "west", 6, 1), [6, 4, 1])
        self.same(row(BENT, "east", 8, 1), None)
        self.same(row(BENT, "east", 1, 7), None)
        self.same(row(CLASPED, "east", 9, 3), [9, 3])

    def test_the_block_alone_for_itself(self):
        for stack, way in itertools.product((CLASPED, BENT, *WILD), WAYS):
            for number in dict(stack):
                with self.subTest(stack=stack, way=way, number=number):
                    self.same(row(stack, way, number, number), [number])

    def test_as_short_as_any(self):
        for stack, way in itertools.product(WILD, WAYS):
            for one in dict(stack):
                lengths = {one: 1}
                for many in range(2, len(stack) + 1):
                    for near, far in pairs_on(stack, way):
                        if lengths.get(near) == many - 1:
                            lengths.setdefault(far, many)
                for other in dict(stack):
                    with self.subTest(stack=stack, way=way, pair=(one, other)):
                        self.check(stack, way, one, other, lengths.get(other))

    def test_straight_past_others(self):
        stack = [(number, [(0, 0, 3 * number)]) for number in range(50)]
        self.same(row(stack, "up", 0, 49), [0, 49])
        self.same(row(stack, "down", 30, 2), [30, 2])

    def test_just_where_the_other_comes_along(self):
        for stack, way in itertools.product(WILD, WAYS):
            for one, other in itertools.product(dict(stack), repeat=2):
                with self.subTest(stack=stack, way=way, pair=(one, other)):
                    self.assertEqual(row(stack, way, one, other) is not None, other in along(stack, way, [one]))

    def test_a_long_chain(self):
        with at_once():
            self.same(row(chain(1500), "east", 3, 1499), list(range(3, 1500)))
            self.same(row(chain(1500), "east", 4, 3), None)


class Soon(WoodCase):
    def test_far_apart_and_great_numbers(self):
        first, last = 10 ** 28 + 1, 10 ** 29 - 1
        for far in (10 ** 12, 10 ** 27, GREAT):
            with self.subTest(far), at_once():
                stack = [(0, [(0, -far, 0)]), (first, [(0, far, 0), (0, far, far)]), (last, [(-far, far, far)])]
                self.same(goes_out(stack, "north", [0]), False)
                self.same(goes_out(stack, "south", [0]), True)
                self.same(stops(stack, "west", [first, 0]), [(first, last)])
                self.same(along(stack, "north", [0]), [0, first])
                self.same(along(stack, "west", [first]), [first, last])
                self.same(row(stack, "west", first, last), [first, last])
                self.same(row(stack, "north", 0, last), None)


class Refusals(WoodCase):
    def test_no_block_anywhere_in_a_group(self):
        for call, number in itertools.product((goes_out, stops, along), (-1, 0, 5, GREAT)):
            with self.subTest(call=call.__name__, number=number):
                for group in ([number], [number, 1], [1, number], [1, 4, number, 6], [1, 4, 6, 7, 8, number]):
                    self.refused(NoBlock, "no block", call, BENT, "east", group)
                self.refused(NoBlock, "no block", call, [], "east", [number])

    def test_no_block_at_either_end_of_a_row(self):
        for number in (-1, 0, 5, GREAT):
            with self.subTest(number):
                self.refused(NoBlock, "no block", row, BENT, "east", number, 1)
                self.refused(NoBlock, "no block", row, BENT, "east", 1, number)
                self.refused(NoBlock, "no block", row, BENT, "east", number, number)
                self.refused(NoBlock, "no block", row, [], "east", number, number)

    def test_no_way_ahead_of_all(self):
        for text in NO_WAYS:
            with self.subTest(text):
                for call in (goes_out, stops, along):
                    for stack, group in itertools.product((BENT, []), ([], [5])):
                        self.refused(BadWay, "bad way", call, stack, text, group)
                    self.refused(BadWay, "bad way", call, BENT, text, [1, 4])
                self.refused(BadWay, "bad way", row, BENT, text, 1, 4)
                self.refused(BadWay, "bad way", row, BENT, text, 1, 5)
                self.refused(BadWay, "bad way", row, BENT, text, 5, 1)
                self.refused(BadWay, "bad way", row, BENT, text, 1, 1)


class Kept(WoodCase):
    def test_nothing_is_kept(self):
        for stack, way in itertools.product(([], CLASPED, BENT, *WILD[:10]), WAYS):
            numbers = list(dict(stack))
            with self.subTest(stack=stack, way=way):
                for call, group in itertools.product((goes_out, stops, along), ([], numbers[:1] * 2, numbers[::-1])):
                    self.keeps_nothing(call, stack, way, group)
                for one, other in itertools.product(numbers, repeat=2):
                    self.keeps_nothing(row, stack, way, one, other)

    def test_a_told_group_is_not_the_handed_one(self):
        group = [3, 9]
        along(CLASPED, "east", group).clear()
        self.same(group, [3, 9])
        self.same(along(CLASPED, BACKS["east"], group), [3, 9])


if __name__ == "__main__":
    unittest.main()
