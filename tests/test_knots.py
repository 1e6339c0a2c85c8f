"""Promise [10] as far as it speaks of knots; with [1], [2], [6] and [7]."""

import itertools
import random
import unittest

from gripwood.errors import BadLine, NoBlock
from gripwood.knots import knot_of, knots
from tests.helper import (GREAT, LINES, NO_LINES, WoodCase, all_turns, at_once, groups_of, led_line, led_stack, part,
                          pulls_on, subsets, wild_stacks)

# Around the cell of 4 the block 1 has one on each side; 0 lies beside them, and 9 far up.
CAGE = [(0, [(5, 5, 5)]), (1, [(-1, 0, 0), (0, -1, 0), (0, 0, -1), (0, 0, 1), (0, 1, 0), (1, 0, 0)]),
        (4, [(0, 0, 0)]), (9, [(0, 0, 30)])]
# To the east 0 leads to 1, 1 to 2 and 2 to 0; to the north none leads to another one.
WHEEL = [(0, [(0, 0, 0), (0, 1, 0)]), (1, [(1, 0, 0)]), (2, [(-1, 1, 0), (2, 0, 0)])]
WILD = (wild_stacks("knots", 10, most_cells=4) + wild_stacks("dense", 16, most_blocks=4, most_cells=6, sides=(3, 3, 3))
        + wild_stacks("denser", 10, most_blocks=4, most_cells=6, sides=(3, 3, 3), least_cells=6))


def pulled_apart(stack, lines, chance):
    """The parts that are left behind pulls that are chosen by chance, and how many pulls it took."""
    parts = [stack] if stack else []
    left = []
    many = 0
    while parts:
        one = parts.pop(chance.randrange(len(parts)))
        pulls = pulls_on(one, lines)
        if not pulls:
            left.append([number for number, cells in one])
            continue
        way, group = chance.choice(pulls)
        many += 1
        parts += [part(one, group), [block for block in one if block[0] not in group]]
    return sorted(left), many


class Knots(WoodCase):
    def test_the_empty_stack_and_one_block(self):
        for lines in subsets(LINES):
            with self.subTest(lines):
                self.same(knots([], lines), [])
                self.same(knots([(6, [(0, 0, 0), (2, 0, 0)])], lines), [[6]])

    def test_no_open_line(self):
        for stack in (CAGE, WHEEL, *WILD):
            with self.subTest(stack):
                self.same(knots(stack, []), [[number for number, cells in stack]])

    def test_by_name(self):
        for lines in subsets(LINES)[1:]:
            with self.subTest(lines):
                self.same(knots(CAGE, lines), [[0], [1, 4], [9]])
        self.same(knots(WHEEL, ["long"]), [[0, 1, 2]])
        self.same(knots(WHEEL, ["broad"]), [[0], [1], [2]])

    def test_parted_by_several_lines_in_turn(self):
        # 1 and 2 clasp each other to the east, 2 and 3 to the north, 1 and 3 by neither.
        stack = [(1, [(0, 0, 0), (2, 0, 0)]), (2, [(1, 0, 0), (9, 0, 0), (9, 2, 0)]), (3, [(9, 1, 0)])]
        self.same(knots(stack, ["long"]), [[1, 2], [3]])
        self.same(knots(stack, ["broad"]), [[1], [2, 3]])
        self.same(knots(stack, ["long", "broad"]), [[1], [2], [3]])

    def test_whichever_pulls_are_chosen(self):
        chance = random.Random("pulls")
        for stack, lines in itertools.product([CAGE, WHEEL, *WILD], subsets(LINES)):
            told = knots(stack, lines)
            for again in range(3):
                with self.subTest(stack=stack, lines=lines, again=again):
                    left, many = pulled_apart(stack, lines, chance)
                    self.same(told, left)
                    self.assertEqual(len(told), many + 1)

    def test_wild_stacks_have_knots_of_several_blocks(self):
        for lines in (["long"], LINES):
            found = [len(knot) for stack in WILD for knot in knots(stack, lines)]
            self.assertTrue({1, 2, 3} <= set(found), lines)

    def test_lines_in_any_order_and_one_twice(self):
        for stack, lines in itertools.product(WILD, itertools.permutations(LINES)):
            with self.subTest(stack=stack, lines=lines):
                self.same(knots(stack, list(lines)), knots(stack, LINES))
                self.same(knots(stack, [lines[0], lines[1], lines[0]]), knots(stack, sorted(lines[:2])))
                self.same(knots(stack, [lines[0], lines[0]]), knots(stack, [lines[0]]))

    def test_each_block_in_just_one_by_first_blocks(self):
        for stack, lines in itertools.product(WILD, subsets(LINES)):
            with self.subTest(stack=stack, lines=lines):
                told = knots(stack, lines)
                self.assertEqual(sorted(number for knot in told for number in knot), list(dict(stack)))
                self.assertEqual(told, sorted(told, key=lambda knot: knot[0]))
                self.assertTrue(all(knot == sorted(knot) for knot in told))

    def test_knots_of_a_part_lie_within_knots_of_the_whole(self):
        for stack, lines in itertools.product(WILD, subsets(LINES)):
            whole = knots(stack, lines)
            for group in groups_of(stack):
                with self.subTest(stack=stack, lines=lines, group=group):
                    for knot in knots(part(stack, group), lines):
                        self.assertTrue(any(set(knot) <= set(other) for other in whole))

    def test_with_fewer_open_lines_each_knot_lies_within_one(self):
        for stack, lines in itertools.product(WILD, subsets(LINES)):
            for fewer in subsets(lines):
                with self.subTest(stack=stack, lines=lines, fewer=fewer):
                    for knot in knots(stack, lines):
                        self.assertTrue(any(set(knot) <= set(other) for other in knots(stack, fewer)))

    def test_turned_and_shifted(self):
        for stack, turn in itertools.product(WILD[::2], all_turns()):
            led = led_stack(stack, turn, (5, -10 ** 12, 10 ** 27))
            for lines in subsets(LINES):
                with self.subTest(stack=stack, turn=turn, lines=lines):
                    self.same(knots(led, [led_line(line, turn) for line in lines]), knots(stack, lines))

    def test_two_stacks_far_beside_one_another(self):
        straight = ("east", "north", "up")
        for one, other in zip(WILD, WILD[1:]):
            there = [(number + 100, cells) for number, cells in other]
            for far, lines in itertools.product((10 ** 12, 10 ** 27), subsets(LINES)[1:]):
                for by in ((far, 0, 0), (0, -far, 0), (far, far, -far)):
                    with self.subTest(one=one, other=other, by=by, lines=lines):
                        both = one + led_stack(there, straight, by)
                        self.same(knots(both, lines), knots(one, lines) + knots(there, lines))

    def test_many_blocks_far_apart_and_great_numbers(self):
        for far in (10 ** 12, 10 ** 26):
            with self.subTest(far), at_once():
                chain = [(10 ** 28 + number, [(far * number, 0, 0)]) for number in range(1000)]
                self.same(knots(chain, ["high", "long"]), [[number] for number, cells in chain])
                clasps = [(number, [*cells, (far * (number - 10 ** 28) + far + 1, 0, 0)]) for number, cells in chain]
                self.same(knots(clasps, ["long"]), [[number for number, cells in chain]])


class KnotOf(WoodCase):
    def test_for_each_block(self):
        for stack, lines in itertools.product([CAGE, WHEEL, *WILD], subsets(LINES)):
            told = knots(stack, lines)
            for number in dict(stack):
                with self.subTest(stack=stack, lines=lines, number=number):
                    self.same([knot_of(stack, lines, number)], [knot for knot in told if number in knot])

    def test_by_name(self):
        self.same(knot_of(CAGE, ["high"], 4), [1, 4])
        self.same(knot_of(CAGE, ["high"], 9), [9])
        self.same(knot_of(CAGE, [], 9), [0, 1, 4, 9])


class Refusals(WoodCase):
    def test_no_block(self):
        for number, lines in itertools.product((-1, 2, 10, GREAT), subsets(LINES)):
            with self.subTest(number=number, lines=lines):
                self.refused(NoBlock, "no block", knot_of, CAGE, lines, number)
                self.refused(NoBlock, "no block", knot_of, [], lines, number)

    def test_no_line_ahead_of_no_block(self):
        for text, stack in itertools.product(NO_LINES, ([], CAGE)):
            for lines in ([text], [text, "long"], ["long", text], ["long", "broad", text, "high"]):
                with self.subTest(lines=lines, stack=stack):
                    self.refused(BadLine, "bad line", knots, stack, lines)
                    for number in (0, 2):
                        self.refused(BadLine, "bad line", knot_of, stack, lines, number)


class Kept(WoodCase):
    def test_nothing_is_kept(self):
        for stack, lines in itertools.product(([], CAGE, WHEEL, *WILD[:8]), subsets(LINES)):
            with self.subTest(stack=stack, lines=lines):
                self.keeps_nothing(knots, stack, lines)
                for number in dict(stack):
                    self.keeps_nothing(knot_of, stack, lines, number)


if __name__ == "__main__":
    unittest.main()
