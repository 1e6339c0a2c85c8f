"""Promise [12], with [1], [2], [6] and [7]."""

import itertools
import unittest

from gripwood.errors import BadWay, NoBlock
from gripwood.press import pressed, shifts, stop
from tests.helper import (BACKS, GREAT, NO_WAYS, VECTORS, WAYS, WoodCase, all_turns, at_once, lane_on, led_stack,
                          led_way, meetings_on, pairs_on, place_on, wild_stacks)

LANE = [(2, [(0, 0, 0)]), (5, [(9, 0, 0)]), (40, [(4, 0, 0)])]
# 3 and 9 hold one another to the east and to the west; 6 bounds 3 to the east, and the wall, as far as 1, bounds 9.
CLASPED = [(1, [(0, 5, 0), (20, 5, 0)]), (3, [(0, 0, 0), (4, 0, 0)]), (6, [(9, 0, 0)]), (9, [(2, 0, 0), (6, 1, 0)])]
WILD = (wild_stacks("long", 24, most_blocks=4, sides=(6, 2, 1))
        + wild_stacks("high", 12, most_blocks=4, sides=(2, 1, 6))
        + wild_stacks("broad", 12, most_blocks=4, sides=(1, 5, 3))
        + wild_stacks("cube", 12, most_blocks=4))


def room(stack, way):
    """For each block as many steps as its farthest cell lies before the stack's farthest place."""
    farthest = {number: max(place_on(cell, way) for cell in cells) for number, cells in stack}
    return {number: max(farthest.values()) - farthest[number] for number in farthest}


def gaps_on(stack, way):
    """For each pair where the other lies ahead of the one the gap between them, by the words of [7]."""
    return {pair: min(place_on(farther, way) - place_on(cell, way) - 1
                      for cell, farther in meetings_on(stack, way, *pair)) for pair in pairs_on(stack, way)}


def judged_shifts(stack, way):
    """The greatest of all steps that keep to both bounds of [12], out of all that could."""
    rooms = room(stack, way)
    gaps = gaps_on(stack, way)
    kept = []
    for many in itertools.product(*[range(rooms[number] + 1) for number in rooms]):
        steps = dict(zip(rooms, many))
        if all(steps[one] <= steps[other] + gaps[one, other] for one, other in gaps):
            kept.append(many)
    return list(zip(rooms, [max(many) for many in zip(*kept)]))


def gone(cells, way, many):
    return [tuple(number + many * by for number, by in zip(cell, VECTORS[way])) for cell in cells]


def lane_orders(stack, way):
    """For each lane the blocks of its cells, from the first place on."""
    found = {}
    for at, number, where in sorted((place_on(cell, way), number, lane_on(cell, way))
                                    for number, cells in stack for cell in cells):
        found.setdefault(where, []).append(number)
    return found


class Shifts(WoodCase):
    def test_the_empty_stack_and_one_block(self):
        for way in WAYS:
            with self.subTest(way):
                self.same(shifts([], way), [])
                self.same(shifts([(6, [(0, 0, 0), (5, 0, 0)])], way), [(6, 0)])

    def test_by_name(self):
        self.same(shifts(LANE, "east"), [(2, 7), (5, 0), (40, 4)])
        self.same(shifts(LANE, "west"), [(2, 0), (5, 7), (40, 3)])
        for way in ("north", "south", "up", "down"):
            self.same(shifts(LANE, way), [(2, 0), (5, 0), (40, 0)])

    def test_beside_one_another_up_to_the_wall(self):
        stack = [(0, [(0, 0, 0)]), (1, [(7, 1, 0)]), (2, [(3, 2, 0), (4, 2, 0)])]
        self.same(shifts(stack, "east"), [(0, 7), (1, 0), (2, 3)])
        self.same(shifts(stack, "west"), [(0, 0), (1, 7), (2, 3)])

    def test_no_block_goes_through_another_one_that_it_could_pass(self):
        stack = [(0, [(0, 0, 0), (5, 1, 0)]), (1, [(5, 0, 0), (9, 1, 0)]), (2, [(20, 9, 9)])]
        self.same(shifts(stack, "east"), [(0, 11 + 3), (1, 11), (2, 0)])

    def test_blocks_that_hold_one_another(self):
        self.same(shifts(CLASPED, "east"), [(1, 0), (3, 15), (6, 11), (9, 14)])
        self.same(shifts(CLASPED, "west"), [(1, 0), (3, 0), (6, 4), (9, 1)])
        cage = [(1, [(-1, 0, 0), (0, -1, 0), (0, 0, -1), (0, 0, 1), (0, 1, 0), (1, 0, 0)]), (4, [(0, 0, 0)]),
                (8, [(6, 6, 6)])]
        for way in ("east", "north", "up"):
            self.same(shifts(cage, way), [(1, 5), (4, 5), (8, 0)])
        for way in ("west", "south", "down"):
            self.same(shifts(cage, way), [(1, 0), (4, 0), (8, 7)])

    def test_the_greatest_steps_of_all_on_each_way(self):
        for stack, way in itertools.product(WILD, WAYS):
            with self.subTest(stack=stack, way=way):
                self.same(shifts(stack, way), judged_shifts(stack, way))

    def test_wild_stacks_are_bounded_by_blocks_and_by_the_wall(self):
        told = [(many, room(stack, way)[number]) for stack in WILD for way in WAYS
                for number, many in shifts(stack, way)]
        self.assertTrue(any(0 < many < most for many, most in told))
        self.assertTrue(any(0 < many == most for many, most in told))

    def test_turned_and_shifted(self):
        for stack, turn in itertools.product(WILD[::3], all_turns()):
            led = led_stack(stack, turn, (10 ** 27, -4, 10 ** 12))
            for way in WAYS:
                with self.subTest(stack=stack, turn=turn, way=way):
                    self.same(shifts(led, led_way(way, turn)), shifts(stack, way))

    def test_many_blocks(self):
        chain = [(number, [(number * number, 0, 0)]) for number in range(800)]
        with at_once():
            self.same(shifts(chain, "east"), [(k, 799 * 799 - k * k - (799 - k)) for k in range(800)])
            self.same(shifts(chain, "west"), [(k, k * k - k) for k in range(800)])

    def test_far_apart_and_great_numbers(self):
        first, last = 10 ** 28 + 1, 10 ** 29 - 1
        for far in (10 ** 12, 10 ** 27, GREAT):
            with self.subTest(far), at_once():
                stack = [(5, [(0, 0, -far)]), (first, [(0, 0, 0), (0, 1, 0)]), (last, [(0, 1, far)])]
                self.same(shifts(stack, "up"), [(5, 2 * far - 2), (first, far - 1), (last, 0)])
                self.same(shifts(stack, "down"), [(5, 0), (first, far - 1), (last, 2 * far - 2)])
                self.same(pressed(stack, "up"), [(5, [(0, 0, far - 2)]), (first, [(0, 0, far - 1), (0, 1, far - 1)]),
                                                 (last, [(0, 1, far)])])
                self.same(stop(stack, "up", 5), [5, first, last])
                self.same(stop(stack, "up", last), [last])


class Pressed(WoodCase):
    def test_by_name(self):
        self.same(pressed(LANE, "east"), [(2, [(7, 0, 0)]), (5, [(9, 0, 0)]), (40, [(8, 0, 0)])])
        self.same(pressed(LANE, "west"), [(2, [(0, 0, 0)]), (5, [(2, 0, 0)]), (40, [(1, 0, 0)])])
        self.same(pressed([], "up"), [])

    def test_each_block_so_far_on(self):
        for stack, way in itertools.product([LANE, CLASPED, *WILD], WAYS):
            with self.subTest(stack=stack, way=way):
                told = pressed(stack, way)
                self.is_stack(told, [number for number, cells in stack])
                steps = dict(shifts(stack, way))
                self.same(told, [(number, gone(cells, way, steps[number])) for number, cells in stack])

    def test_none_goes_through_another_one_or_the_wall(self):
        for stack, way in itertools.product([LANE, CLASPED, *WILD], WAYS):
            with self.subTest(stack=stack, way=way):
                told = pressed(stack, way)
                self.assertEqual(lane_orders(told, way), lane_orders(stack, way))
                self.assertEqual(min(room(stack, way).values()), 0)
                wall = max(place_on(cell, way) for number, cells in stack for cell in cells)
                self.assertEqual(max(place_on(cell, way) for number, cells in told for cell in cells), wall)

    def test_what_is_pressed_once_stays(self):
        for stack, way in itertools.product([LANE, CLASPED, *WILD], WAYS):
            with self.subTest(stack=stack, way=way):
                told = pressed(stack, way)
                self.same(pressed(told, way), told)
                self.same(shifts(told, way), [(number, 0) for number, cells in stack])


class Stop(WoodCase):
    def test_by_name(self):
        self.same(stop(LANE, "east", 2), [2, 40, 5])
        self.same(stop(LANE, "east", 5), [5])
        self.same(stop(LANE, "west", 5), [5, 40, 2])
        self.same(stop(LANE, "up", 2), [2])
        self.same(stop(CLASPED, "east", 3), [3, 6])
        self.same(stop(CLASPED, "east", 9), [9])

    def test_by_the_words(self):
        for stack, way in itertools.product([LANE, CLASPED, *WILD], WAYS):
            steps = dict(shifts(stack, way))
            gaps = gaps_on(stack, way)
            for number in steps:
                with self.subTest(stack=stack, way=way, number=number):
                    told = stop(stack, way, number)
                    self.assertIs(type(told), list)
                    self.assertEqual(told[0], number)
                    between = sum(gaps[pair] for pair in zip(told, told[1:]))
                    self.assertEqual(steps[number], between + room(stack, way)[told[-1]])

    def test_wild_stacks_have_stops_of_several_blocks(self):
        found = [len(stop(stack, way, number)) for stack in WILD for way in WAYS for number in dict(stack)]
        self.assertTrue({1, 2, 3} <= set(found))


class Refusals(WoodCase):
    def test_no_block(self):
        for number, way in itertools.product((-1, 0, 4, GREAT), WAYS):
            with self.subTest(number=number, way=way):
                self.refused(NoBlock, "no block", stop, LANE, way, number)
                self.refused(NoBlock, "no block", stop, [], way, number)

    def test_no_way_ahead_of_no_block(self):
        for text, stack in itertools.product(NO_WAYS, ([], LANE)):
            with self.subTest(text=text, stack=stack):
                self.refused(BadWay, "bad way", shifts, stack, text)
                self.refused(BadWay, "bad way", pressed, stack, text)
                self.refused(BadWay, "bad way", stop, stack, text, 5)
                self.refused(BadWay, "bad way", stop, stack, text, 4)


class Kept(WoodCase):
    def test_nothing_is_kept(self):
        for stack, way in itertools.product(([], LANE, CLASPED, *WILD[:8]), WAYS):
            with self.subTest(stack=stack, way=way):
                self.keeps_nothing(shifts, stack, way)
                self.keeps_nothing(pressed, stack, way)
                for number in dict(stack):
                    self.keeps_nothing(stop, stack, way, number)

    def test_a_pressed_stack_is_not_the_handed_one(self):
        handed = [(0, [(0, 0, 0)])]
        told = pressed(handed, BACKS["up"])
        told[0][1].clear()
        self.same(handed, [(0, [(0, 0, 0)])])


if __name__ == "__main__":
    unittest.main()
