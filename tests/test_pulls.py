"""Promises [9] and [10] as far as they speak of groups that are moved and of pulls; with [1], [2], [6] and [7]."""

import itertools
import random
import unittest

from gripwood.errors import BadLine, BadWay, NoBlock, Touch
from gripwood.pulls import a_pull, clear, moved
from tests.helper import (GREAT, LINE_WAYS, LINES, NO_LINES, NO_WAYS, VECTORS, WAYS, WoodCase, at_once, groups_of,
                          leaves_on, place_on, pulls_on, shuffled, subsets, wild_stacks)

# Around the cell of 4 the block 1 has one on each side: no way leads out.
CAGE = [(1, [(-1, 0, 0), (0, -1, 0), (0, 0, -1), (0, 0, 1), (0, 1, 0), (1, 0, 0)]), (4, [(0, 0, 0)])]
LANE = [(2, [(0, 0, 0)]), (5, [(9, 0, 0)]), (40, [(4, 0, 0)])]
WILD = wild_stacks("pulls", 30) + wild_stacks("dense", 10, most_blocks=4, most_cells=6)


def stepped(cells, way, many):
    return [tuple(number + many * by for number, by in zip(cell, VECTORS[way])) for cell in cells]


def judged_touch(stack, way, group, many):
    """The least cell that is shared behind the first step at which some is, step by step; None where none is."""
    own = [cell for number, cells in stack if number in group for cell in cells]
    others = [cell for number, cells in stack if number not in group for cell in cells]
    for after in range(1, many + 1):
        shared = set(stepped(own, way, after)) & set(others)
        if shared:
            return min(shared)
    return None


def judged_clear(stack, way, group):
    """As many steps as are needed, counted one by one."""
    own = [cell for number, cells in stack if number in group for cell in cells]
    others = [cell for number, cells in stack if number not in group for cell in cells]
    for after in itertools.count():
        places = [place_on(cell, way) for cell in stepped(own, way, after)]
        if all(place > place_on(cell, way) for place in places for cell in others):
            return after


class Moved(WoodCase):
    def check(self, stack, way, group, many):
        touch = judged_touch(stack, way, group, many)
        if touch is not None:
            self.same(self.refused(Touch, "touch", moved, stack, way, group, many).cell, touch)
            return
        told = moved(stack, way, group, many)
        self.same(told, [(number, stepped(cells, way, many) if number in group else cells)
                         for number, cells in stack])
        self.is_stack(told, [number for number, cells in stack])

    def test_on_each_way(self):
        stack = [(0, [(1, 2, 3), (1, 2, 4)]), (6, [(10, 10, 10)])]
        wanted = {"east": [(4, 2, 3), (4, 2, 4)], "west": [(-2, 2, 3), (-2, 2, 4)],
                  "north": [(1, 5, 3), (1, 5, 4)], "south": [(1, -1, 3), (1, -1, 4)],
                  "up": [(1, 2, 6), (1, 2, 7)], "down": [(1, 2, 0), (1, 2, 1)]}
        for way, cells in wanted.items():
            with self.subTest(way):
                self.same(moved(stack, way, [0], 3), [(0, cells), (6, [(10, 10, 10)])])

    def test_all_groups_step_by_step(self):
        chance = random.Random("orders")
        for stack, way in itertools.product(WILD, WAYS):
            for group in groups_of(stack):
                with self.subTest(stack=stack, way=way, group=group):
                    for many in range(5):
                        self.check(stack, way, shuffled(group, chance), many)

    def test_nought_some_and_two_hundred_steps(self):
        for stack, way in itertools.product([*WILD[:6], CAGE], WAYS):
            for group, many in itertools.product(groups_of(stack), (0, 1, 199, 200, 250)):
                with self.subTest(stack=stack, way=way, group=group, many=many):
                    self.check(stack, way, group, many)

    def test_no_block_and_all_blocks(self):
        for stack, way, many in itertools.product(([], CAGE, LANE, *WILD[:10]), WAYS, (0, 1, 7, 200)):
            numbers = [number for number, cells in stack]
            with self.subTest(stack=stack, way=way, many=many):
                self.same(moved(stack, way, [], many), stack)
                self.same(moved(stack, way, numbers[::-1], many),
                          [(number, stepped(cells, way, many)) for number, cells in stack])

    def test_up_to_the_wood_and_into_it(self):
        self.same(moved(LANE, "east", [2], 3), [(2, [(3, 0, 0)]), (5, [(9, 0, 0)]), (40, [(4, 0, 0)])])
        self.same(self.refused(Touch, "touch", moved, LANE, "east", [2], 4).cell, (4, 0, 0))
        self.same(moved(LANE, "east", [2, 40], 4), [(2, [(4, 0, 0)]), (5, [(9, 0, 0)]), (40, [(8, 0, 0)])])
        self.same(self.refused(Touch, "touch", moved, LANE, "east", [2, 40], 5).cell, (9, 0, 0))

    def test_also_where_it_would_be_clear_again(self):
        for many in (4, 5, 6, 9, 10, 200):
            with self.subTest(many):
                self.same(self.refused(Touch, "touch", moved, LANE, "east", [2], many).cell, (4, 0, 0))

    def test_the_first_step_goes_ahead_of_the_least_cell(self):
        stack = [(0, [(5, 0, 0), (5, 9, 0)]), (1, [(7, 9, 0), (8, 0, 0)])]
        self.same(self.refused(Touch, "touch", moved, stack, "east", [0], 9).cell, (7, 9, 0))
        self.same(self.refused(Touch, "touch", moved, stack, "west", [1], 9).cell, (5, 9, 0))

    def test_the_least_cell_of_the_first_step(self):
        stack = [(0, [(0, 0, 5), (0, 1, 3), (0, 2, 9)]), (1, [(0, 0, 7), (0, 1, 5)]), (2, [(0, 2, 11)])]
        self.same(self.refused(Touch, "touch", moved, stack, "up", [0], 2).cell, (0, 0, 7))
        self.same(self.refused(Touch, "touch", moved, stack, "down", [1, 2], 2).cell, (0, 0, 5))

    def test_far_apart_and_great_numbers(self):
        last = 10 ** 29 - 1
        for far in (10 ** 12, 10 ** 27, GREAT):
            with self.subTest(far), at_once():
                stack = [(3, [(0, 0, -far), (0, 0, 0)]), (last, [(0, 0, 201), (0, 5, far)])]
                self.same(moved(stack, "up", [3], 200),
                          [(3, [(0, 0, 200 - far), (0, 0, 200)]), (last, [(0, 0, 201), (0, 5, far)])])
                self.same(self.refused(Touch, "touch", moved, stack, "down", [last], 201).cell, (0, 0, 0))


class Clear(WoodCase):
    def test_by_name(self):
        self.same(clear(LANE, "east", [2]), 10)
        self.same(clear(LANE, "west", [2]), 0)
        self.same(clear(LANE, "west", [40]), 5)
        self.same(clear(LANE, "east", [5]), 0)
        self.same(clear(LANE, "up", [5]), 1)
        self.same(clear(CAGE, "north", [1]), 2)
        self.same(clear(CAGE, "north", [4]), 2)

    def test_no_block_and_all_blocks(self):
        for stack, way in itertools.product(([], CAGE, LANE, *WILD), WAYS):
            numbers = [number for number, cells in stack]
            with self.subTest(stack=stack, way=way):
                self.same(clear(stack, way, []), 0)
                self.same(clear(stack, way, numbers), 0)
                self.same(clear(stack, way, numbers + numbers), 0)

    def test_all_groups_step_by_step(self):
        chance = random.Random("orders")
        for stack, way in itertools.product(WILD, WAYS):
            for group in groups_of(stack):
                with self.subTest(stack=stack, way=way, group=group):
                    self.same(clear(stack, way, shuffled(group, chance)), judged_clear(stack, way, group))

    def test_also_beside_one_another(self):
        self.same(clear([(0, [(0, 0, 0)]), (1, [(4, 7, 7)])], "east", [0]), 5)
        self.same(clear([(0, [(0, 0, 0)]), (1, [(4, 7, 7)])], "west", [0]), 0)

    def test_far_apart(self):
        for far in (10 ** 12, 10 ** 27, GREAT):
            with self.subTest(far), at_once():
                stack = [(10 ** 28, [(0, -far, 0)]), (10 ** 29 - 1, [(1, far, 0)])]
                self.same(clear(stack, "north", [10 ** 28]), 2 * far + 1)
                self.same(clear(stack, "north", [10 ** 29 - 1]), 0)


class Pulls(WoodCase):
    def check(self, stack, lines):
        told = a_pull(stack, lines)
        if not pulls_on(stack, lines):
            self.assertIsNone(told)
            return
        self.assertIs(type(told), tuple)
        way, group = told
        self.assertIn(way, [way for line in lines for way in LINE_WAYS[line]])
        self.assertIs(type(group), list)
        self.assertIn(group, groups_of(stack)[1:-1])
        self.assertTrue(leaves_on(stack, way, group))

    def test_none(self):
        for lines in subsets(LINES):
            with self.subTest(lines):
                self.same(a_pull([], lines), None)
                self.same(a_pull([(7, [(0, 0, 0), (2, 0, 0)])], lines), None)
                self.same(a_pull(CAGE, lines), None)
        self.same(a_pull(LANE, []), None)

    def test_only_one_group(self):
        clasped = [(3, [(0, 0, 0), (2, 0, 0)]), (9, [(1, 0, 0)]), (12, [(5, 0, 0)])]
        self.assertIn(a_pull(clasped, ["long"]), [("east", [12]), ("west", [3, 9])])
        self.same(a_pull(clasped[:2], ["long"]), None)
        self.assertIn(a_pull(clasped[:2], ["high"]), itertools.product(["up", "down"], [[3], [9]]))

    def test_against_all_groups(self):
        for stack, lines in itertools.product(WILD, subsets(LINES)):
            with self.subTest(stack=stack, lines=lines):
                self.check(stack, lines)

    def test_lines_in_any_order_and_one_twice(self):
        for stack, lines in itertools.product(WILD[::3], itertools.permutations(LINES)):
            for handed in ([*lines], [*lines, lines[0]], [lines[1], lines[1]]):
                with self.subTest(stack=stack, lines=handed):
                    self.check(stack, handed)

    def test_wild_stacks_have_both_answers(self):
        told = [a_pull(stack, ["long"]) is None for stack in WILD if len(stack) > 1]
        self.assertEqual({True, False}, set(told))

    def test_far_apart(self):
        for far in (10 ** 12, 10 ** 27, GREAT):
            with self.subTest(far), at_once():
                stack = [(5, [(0, 0, -far), (0, 0, far)]), (10 ** 29 - 1, [(0, 0, 0)])]
                self.same(a_pull(stack, ["high", "high"]), None)
                self.check(stack, ["high", "broad"])


class Refusals(WoodCase):
    def test_no_block_anywhere_in_a_group(self):
        for number in (-1, 0, 3, GREAT):
            for group in ([number], [number, 1], [1, number, 4], [4, 1, number]):
                with self.subTest(group):
                    self.refused(NoBlock, "no block", moved, CAGE, "east", group, 0)
                    self.refused(NoBlock, "no block", moved, CAGE, "east", group, 200)
                    self.refused(NoBlock, "no block", clear, CAGE, "east", group)
            self.refused(NoBlock, "no block", moved, [], "east", [number], 1)
            self.refused(NoBlock, "no block", clear, [], "east", [number])

    def test_no_way_ahead_of_all(self):
        for text, stack, group in itertools.product(NO_WAYS, (CAGE, []), ([], [3], [1], [4, 3])):
            with self.subTest(text=text, group=group):
                self.refused(BadWay, "bad way", moved, stack, text, group, 0)
                self.refused(BadWay, "bad way", moved, stack, text, group, 2)
                self.refused(BadWay, "bad way", clear, stack, text, group)

    def test_no_line_anywhere(self):
        for text, stack in itertools.product(NO_LINES, ([], LANE, CAGE)):
            for lines in ([text], [text, "long"], ["long", text], ["long", "broad", text, "high"]):
                with self.subTest(lines=lines, stack=stack):
                    self.refused(BadLine, "bad line", a_pull, stack, lines)


class Kept(WoodCase):
    def test_nothing_is_kept(self):
        for stack, way in itertools.product(([], CAGE, LANE, *WILD[:8]), WAYS):
            numbers = [number for number, cells in stack]
            for group in ([], numbers[::-1], numbers[:1] * 2):
                with self.subTest(stack=stack, way=way, group=group):
                    self.keeps_nothing(clear, stack, way, group)
                    self.keeps_nothing(moved, stack, way, group, 0)
                    if judged_touch(stack, way, group, 9) is None:
                        self.keeps_nothing(moved, stack, way, group, 9)
        for stack, lines in itertools.product(([], CAGE, LANE, *WILD[:8]), subsets(LINES)):
            with self.subTest(stack=stack, lines=lines):
                self.keeps_nothing(a_pull, stack, lines)

    def test_what_is_refused_changes_nothing(self):
        handed = [(2, [(0, 0, 0)]), (5, [(1, 0, 0)])]
        group = [2, 2]
        self.refused(Touch, "touch", moved, handed, "east", group, 1)
        self.same((handed, group), ([(2, [(0, 0, 0)]), (5, [(1, 0, 0)])], [2, 2]))


if __name__ == "__main__":
    unittest.main()
