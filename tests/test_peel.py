"""Promise [11], with [1], [2], [6] and [7]."""

import itertools
import random
import unittest

from gripwood.errors import BadWay, NoBlock
from gripwood.peel import core, free, freed, rounds
from tests.helper import (GREAT, NO_WAYS, WAYS, WoodCase, all_turns, at_once, groups_of, leaves_on, led_stack,
                          led_way, wild_stacks)

CAGE = [(1, [(-1, 0, 0), (0, -1, 0), (0, 0, -1), (0, 0, 1), (0, 1, 0), (1, 0, 0)]), (4, [(0, 0, 0)]),
        (9, [(5, 5, 5)])]
LANE = [(2, [(0, 0, 0)]), (5, [(9, 0, 0)]), (40, [(4, 0, 0)])]
WILD = (wild_stacks("peel", 12, most_cells=4) + wild_stacks("dense", 12, most_blocks=5, most_cells=6, sides=(3, 3, 3))
        + wild_stacks("denser", 10, most_blocks=4, most_cells=6, sides=(3, 3, 3), least_cells=6))
SOME_WAYS = [[], *[[way] for way in WAYS], ["east", "west"], ["down", "north"], ["up", "west", "south"], WAYS]


def loose(stack, ways):
    """The blocks that go out alone, by the words of [11] and [8]."""
    return [number for number, cells in stack if any(leaves_on(stack, way, [number]) for way in ways)]


def without(stack, group):
    return [block for block in stack if block[0] not in group]


def taken_out(stack, ways, chance):
    """What is left when single blocks are taken out in an order that is chosen by chance, and that order."""
    order = []
    while loose(stack, ways):
        order.append(chance.choice(loose(stack, ways)))
        stack = without(stack, order)
    return [number for number, cells in stack], order


class Free(WoodCase):
    def test_by_name(self):
        self.same(free(LANE, ["east"]), [5])
        self.same(free(LANE, ["west"]), [2])
        self.same(free(LANE, ["west", "east"]), [2, 5])
        self.same(free(LANE, ["up"]), [2, 5, 40])
        self.same(free(CAGE, WAYS), [9])

    def test_the_empty_stack_and_no_open_way(self):
        for ways in SOME_WAYS:
            self.same(free([], ways), [])
        for stack in (CAGE, LANE, *WILD):
            self.same(free(stack, []), [])

    def test_one_block(self):
        for ways in SOME_WAYS[1:]:
            self.same(free([(3, [(0, 0, 0), (2, 0, 0)])], ways), [3])

    def test_by_the_words(self):
        for stack, ways in itertools.product(WILD, SOME_WAYS):
            with self.subTest(stack=stack, ways=ways):
                self.same(free(stack, ways), loose(stack, ways))

    def test_ways_in_any_order_and_one_twice(self):
        for stack, ways in itertools.product(WILD, SOME_WAYS):
            with self.subTest(stack=stack, ways=ways):
                for call in (free, rounds, core):
                    self.same(call(stack, ways[::-1] + ways[:1]), call(stack, ways))


class Rounds(WoodCase):
    def test_by_name(self):
        self.same(rounds(LANE, ["east"]), [[5], [40], [2]])
        self.same(rounds(LANE, ["east", "west"]), [[2, 5], [40]])
        self.same(rounds(LANE, ["down"]), [[2, 5, 40]])
        self.same(rounds(CAGE, WAYS), [[9]])
        self.same(rounds(CAGE[:2], WAYS), [])

    def test_the_empty_stack_and_no_open_way(self):
        for ways in SOME_WAYS:
            self.same(rounds([], ways), [])
        for stack in (CAGE, LANE, *WILD):
            self.same(rounds(stack, []), [])

    def test_by_the_words(self):
        for stack, ways in itertools.product(WILD, SOME_WAYS):
            with self.subTest(stack=stack, ways=ways):
                wanted = []
                left = stack
                while loose(left, ways):
                    wanted.append(loose(left, ways))
                    left = without(left, wanted[-1])
                self.same(rounds(stack, ways), wanted)

    def test_many_rounds(self):
        chain = [(number, [(number, 0, 0)]) for number in range(600)]
        with at_once():
            self.same(rounds(chain, ["east"]), [[number] for number in range(600)][::-1])
            self.same(rounds(chain, ["east", "west"]), [[number, 599 - number] for number in range(300)])


class Core(WoodCase):
    def test_by_name(self):
        self.same(core(CAGE, WAYS), [1, 4])
        self.same(core(LANE, ["east"]), [])
        clasped = [(3, [(0, 0, 0), (2, 0, 0)]), (9, [(1, 0, 0)]), (12, [(5, 0, 0)])]
        self.same(core(clasped, ["east"]), [3, 9])
        self.same(core(clasped, ["west"]), [3, 9, 12])
        self.same(core(clasped, ["up"]), [])

    def test_the_empty_stack_and_no_open_way(self):
        for ways in SOME_WAYS:
            self.same(core([], ways), [])
        for stack in (CAGE, LANE, *WILD):
            self.same(core(stack, []), [number for number, cells in stack])

    def test_in_whichever_order_blocks_are_taken_out(self):
        chance = random.Random("hands")
        for stack, ways in itertools.product([CAGE, LANE, *WILD], SOME_WAYS):
            told = core(stack, ways)
            for again in range(4):
                with self.subTest(stack=stack, ways=ways, again=again):
                    self.same(told, taken_out(stack, ways, chance)[0])

    def test_what_the_rounds_leave(self):
        for stack, ways in itertools.product(WILD, SOME_WAYS):
            with self.subTest(stack=stack, ways=ways):
                taken = [number for some in rounds(stack, ways) for number in some]
                self.assertEqual(sorted(taken + core(stack, ways)), [number for number, cells in stack])

    def test_wild_stacks_have_cores_of_all_sizes(self):
        for ways in (["east"], WAYS):
            found = [len(core(stack, ways)) for stack in WILD]
            self.assertTrue({0, 2, 3, 4} <= set(found), ways)

    def test_turned_and_shifted(self):
        for stack, turn in itertools.product(WILD[::3], all_turns()):
            led = led_stack(stack, turn, (-10 ** 27, 3, 10 ** 12))
            for ways in SOME_WAYS:
                with self.subTest(stack=stack, turn=turn, ways=ways):
                    there = [led_way(way, turn) for way in ways]
                    self.same(core(led, there), core(stack, ways))
                    self.same(rounds(led, there), rounds(stack, ways))
                    self.same(free(led, there), free(stack, ways))

    def test_far_apart_and_great_numbers(self):
        first, last = 10 ** 28 + 1, 10 ** 29 - 1
        for far in (10 ** 12, 10 ** 27, GREAT):
            with self.subTest(far), at_once():
                stack = [(5, [(0, -far, 0), (0, far, 0)]), (first, [(0, 0, 0)]), (last, [(far, far, 0)])]
                self.same(free(stack, ["north"]), [last])
                self.same(rounds(stack, ["east"]), [[first, last], [5]])
                self.same(rounds(stack, ["north"]), [[last]])
                self.same(core(stack, ["north", "south"]), [5, first])
                self.same(freed(stack, ["west", "east"], [first, last, 5]), True)
                self.same(freed(stack, ["west"], [last]), False)


class Freed(WoodCase):
    def test_by_name(self):
        self.same(freed(LANE, ["east"], [5, 40, 2]), True)
        self.same(freed(LANE, ["east"], [5, 40]), True)
        self.same(freed(LANE, ["east"], [5, 2]), False)
        self.same(freed(LANE, ["east"], [40]), False)
        self.same(freed(LANE, ["east", "west"], [5, 2, 40]), True)
        self.same(freed(CAGE, WAYS, [9]), True)
        self.same(freed(CAGE, WAYS, [9, 4]), False)

    def test_none(self):
        for stack, ways in itertools.product(([], CAGE, LANE), SOME_WAYS):
            self.same(freed(stack, ways, []), True)

    def test_one_twice(self):
        self.same(freed(LANE, ["east"], [5, 5]), False)
        self.same(freed(LANE, WAYS, [2, 5, 2]), False)
        self.same(freed(LANE, WAYS, [2, 5, 40, 40]), False)
        self.same(freed([(0, [(0, 0, 0)])], ["up"], [0, 0]), False)

    def test_no_open_way(self):
        self.same(freed(LANE, [], [5]), False)

    def test_all_orders_by_the_words(self):
        for stack, ways in itertools.product(WILD[::4], SOME_WAYS):
            for group in groups_of(stack):
                for order in itertools.islice(itertools.permutations(group), 24):
                    with self.subTest(stack=stack, ways=ways, order=order):
                        wanted = all(order[at] in loose(without(stack, order[:at]), ways) for at in range(len(order)))
                        self.same(freed(stack, ways, list(order)), wanted)

    def test_orders_that_were_done(self):
        chance = random.Random("orders")
        for stack, ways in itertools.product(WILD, SOME_WAYS):
            left, order = taken_out(stack, ways, chance)
            with self.subTest(stack=stack, ways=ways, order=order):
                self.same(freed(stack, ways, order), True)
                for number in left:
                    self.same(freed(stack, ways, [*order, number]), False)


class Refusals(WoodCase):
    def test_no_block_at_any_place_ahead_of_looking(self):
        for number in (-1, 0, 3, GREAT):
            for taken in ([number], [5, number], [number, 5], [40, number], [40, 40, number], [5, 40, 2, number]):
                with self.subTest(taken):
                    self.refused(NoBlock, "no block", freed, LANE, ["east"], taken)
                    self.refused(NoBlock, "no block", freed, LANE, [], taken)
            self.refused(NoBlock, "no block", freed, [], WAYS, [number])

    def test_no_way_anywhere_ahead_of_no_block(self):
        for text, stack in itertools.product(NO_WAYS, ([], LANE, CAGE)):
            for ways in ([text], [text, "east"], ["east", text], ["up", "down", text, "north"]):
                with self.subTest(ways=ways, stack=stack):
                    for call in (free, rounds, core):
                        self.refused(BadWay, "bad way", call, stack, ways)
                    for taken in ([], [5], [3], [5, 3], [5, 5]):
                        self.refused(BadWay, "bad way", freed, stack, ways, taken)


class Kept(WoodCase):
    def test_nothing_is_kept(self):
        for stack, ways in itertools.product(([], CAGE, LANE, *WILD[:8]), SOME_WAYS):
            numbers = [number for number, cells in stack]
            with self.subTest(stack=stack, ways=ways):
                for call in (free, rounds, core):
                    self.keeps_nothing(call, stack, ways)
                for taken in ([], numbers, numbers[::-1], numbers[:1] * 2):
                    self.keeps_nothing(freed, stack, ways, taken)


if __name__ == "__main__":
    unittest.main()
