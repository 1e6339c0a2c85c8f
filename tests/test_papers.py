"""Promises [13] and [14]: papers of groups and of cores; with [1], [2], [3], [6] and [7]."""

import itertools
import random
import unittest

from gripwood.errors import BadLine, BadWay, NoBlock
from gripwood.knots import knots
from gripwood.papers import core_paper, good_core, good_knot, knot_paper
from gripwood.peel import core
from tests.helper import (GREAT, LINE_WAYS, LINES, NO_LINES, NO_WAYS, WAYS, WoodCase, at_once, groups_of, meetings_on,
                          part, pulls_on, shuffled, subsets, wild_stacks)

# 1 and 2 clasp each other on each line; 5 lies beside them, and 7 is clasped by 5 to the east only.
CLASP = [(1, [(-1, 0, 0), (0, -1, 0), (0, 0, -1), (0, 0, 1), (0, 1, 0), (1, 0, 0)]), (2, [(0, 0, 0)]),
         (5, [(9, 9, 9), (11, 9, 9)]), (7, [(10, 9, 9)])]
# To the east 0 leads to 1 and 3, both lead to 2, and 2 leads to 0: a round comes by 0 and 2 twice.
EIGHT = [(0, [(0, 0, 0), (0, 1, 0), (4, 5, 0)]), (1, [(1, 0, 0)]), (2, [(0, 5, 0), (2, 0, 0), (2, 1, 0)]),
         (3, [(1, 1, 0)])]
WILD = (wild_stacks("papers", 12, most_cells=4) + wild_stacks("dense papers", 14, most_blocks=4, most_cells=6,
                                                              sides=(3, 3, 3), least_cells=4))
STACKS = [CLASP, EIGHT, *WILD]


def is_knot_paper(stack, lines, group, paper):
    """By the words of [13], apart from the program."""
    counted = [LINE_WAYS[line][0] for line in LINES if line in lines]
    if not group or len(paper) != len(counted):
        return False
    for way, told in zip(counted, paper):
        if set(told) != set(group):
            return False
        if len(set(group)) == 1:
            if len(told) != 1:
                return False
        elif any(one == other or not meetings_on(stack, way, one, other)
                 for one, other in zip(told, told[1:] + told[:1])):
            return False
    return True


def is_core_paper(stack, ways, group, paper):
    """By the words of [14], apart from the program."""
    wanted = [(number, way) for number in set(group) for way in set(ways)]
    if sorted((one, way) for one, way, other in paper) != sorted(wanted):
        return False
    return all(other in group and other != one and meetings_on(stack, way, one, other) for one, way, other in paper)


def changed_rounds(told, numbers):
    """A round with one number left out, changed, put in or put twice, two exchanged, turned about, begun elsewhere."""
    for at in range(len(told)):
        yield told[:at] + told[at + 1:]
        yield told[at:] + told[:at]
        for number in numbers:
            yield told[:at] + [number] + told[at + 1:]
            yield told[:at] + [number] + told[at:]
        for later in range(at + 1, len(told)):
            yield told[:at] + [told[later]] + told[at + 1:later] + [told[at]] + told[later + 1:]
    yield told + told
    yield told[::-1]
    yield []


def changed_papers(paper, numbers):
    for at, told in enumerate(paper):
        yield paper[:at] + paper[at + 1:]
        yield paper[:at] + [told] + paper[at:]
        yield paper[:at] + [[]] + paper[at:]
        for changed in changed_rounds(told, numbers):
            yield paper[:at] + [changed] + paper[at + 1:]
    yield paper[::-1]
    yield [*paper, numbers[:1]]


def changed_triples(paper, numbers):
    for at, (one, way, other) in enumerate(paper):
        before, behind = paper[:at], paper[at + 1:]
        yield before + behind
        yield before + [paper[at]] * 2 + behind
        for number in numbers:
            yield before + [(number, way, other)] + behind
            yield before + [(one, way, number)] + behind
            yield before + [(one, way, number), *paper[at:]]
        for text in (*WAYS, "long", "", "East"):
            yield before + [(one, text, other)] + behind
    yield paper + paper
    yield [*paper, (numbers[0], "east", numbers[-1])]
    yield [*paper, (numbers[0], "aside", numbers[-1])]


class KnotPaper(WoodCase):
    def test_none_just_where_a_pull_parts_the_group(self):
        for stack, lines in itertools.product(STACKS, subsets(LINES)):
            for group in groups_of(stack):
                with self.subTest(stack=stack, lines=lines, group=group):
                    told = knot_paper(stack, lines, group)
                    if not group or pulls_on(part(stack, group), lines):
                        self.assertIsNone(told)
                        continue
                    self.assertTrue(is_knot_paper(stack, lines, group, told), told)
                    self.assertIs(good_knot(stack, lines, group, told), True)
                    self.assertEqual({list}, {type(one) for one in (told, *told)})

    def test_each_knot_has_one(self):
        for stack, lines in itertools.product(STACKS, subsets(LINES)):
            for knot in knots(stack, lines):
                with self.subTest(stack=stack, lines=lines, knot=knot):
                    told = knot_paper(stack, lines, knot)
                    self.assertEqual(len(told), len(lines))
                    self.assertTrue(is_knot_paper(stack, lines, knot, told), told)

    def test_by_name(self):
        self.same(knot_paper(CLASP, ["long"], [7]), [[7]])
        self.same(knot_paper(CLASP, LINES, [7]), [[7], [7], [7]])
        self.same(knot_paper(CLASP, [], [7, 1]), [])
        self.same(knot_paper(CLASP, [], []), None)
        self.same(knot_paper(CLASP, LINES, []), None)
        self.same(knot_paper(CLASP, ["long"], [1, 5]), None)
        self.same(knot_paper(CLASP, ["broad"], [5, 7]), None)
        self.same([sorted(told) for told in knot_paper(CLASP, LINES, [2, 1])], [[1, 2], [1, 2], [1, 2]])
        self.assertEqual(len(knot_paper(EIGHT, ["long"], [0, 1, 2, 3])[0]), 6)

    def test_lines_in_any_order_and_one_twice(self):
        for stack, lines in itertools.product(STACKS, itertools.permutations(LINES)):
            for knot in knots(stack, LINES):
                with self.subTest(stack=stack, lines=lines, knot=knot):
                    self.same(knot_paper(stack, [*lines, lines[0]], knot), knot_paper(stack, LINES, knot))
                    told = knot_paper(stack, list(lines[:2]), knot)
                    if told is not None:
                        self.assertTrue(is_knot_paper(stack, lines[:2], knot, told))
                        self.assertIs(good_knot(stack, [lines[1], lines[0], lines[1]], knot, told), True)

    def test_groups_in_any_order_and_a_number_twice(self):
        chance = random.Random("groups")
        for stack, lines in itertools.product(STACKS, (["long"], ["broad", "high"], [])):
            for group in groups_of(stack):
                with self.subTest(stack=stack, lines=lines, group=group):
                    told = knot_paper(stack, lines, shuffled(group, chance))
                    self.same(told, knot_paper(stack, lines, group))
                    if told is not None:
                        self.assertIs(good_knot(stack, lines, shuffled(group, chance), told), True)

    def test_far_apart_and_many(self):
        for far in (10 ** 12, 10 ** 26):
            with self.subTest(far), at_once():
                ring = [(10 ** 28 + at, [(far * at, 0, 0), (far * at + far + 1, 0, 0)]) for at in range(1000)]
                numbers = [number for number, cells in ring]
                told = knot_paper(ring, ["long"], numbers)
                self.assertEqual(sorted(set(told[0])), numbers)
                self.assertIs(good_knot(ring, ["long"], numbers, told), True)
                self.assertIs(good_knot(ring, ["long"], numbers, [told[0][::-1]]), False)


class GoodKnot(WoodCase):
    def test_changed_papers(self):
        seen = {True: 0, False: 0}
        for stack, lines in itertools.product(STACKS[:12], subsets(LINES)[1:]):
            for group in [group for group in groups_of(stack) if len(group) < 4]:
                paper = knot_paper(stack, lines, group)
                for changed in changed_papers(paper or [group] * len(lines), [*dict(stack), 29, -1]):
                    with self.subTest(stack=stack, lines=lines, group=group, changed=changed):
                        wanted = is_knot_paper(stack, lines, group, changed)
                        self.assertIs(good_knot(stack, lines, group, changed), wanted)
                        seen[wanted] += 1
        self.assertTrue(min(seen.values()) > 200, seen)

    def test_all_short_rounds(self):
        for group in groups_of(EIGHT):
            for many in range(1, 6):
                for told in itertools.product(dict(EIGHT), repeat=many):
                    wanted = is_knot_paper(EIGHT, ["long"], group, [list(told)])
                    self.assertIs(good_knot(EIGHT, ["long"], group, [list(told)]), wanted, (group, told))

    def test_no_paper_is_good_for_no_group(self):
        for lines in subsets(LINES):
            for paper in ([], [[]], [[]] * len(lines), [[1]] * len(lines)):
                with self.subTest(lines=lines, paper=paper):
                    self.assertIs(good_knot(CLASP, lines, [], paper), False)
                    self.assertIs(good_knot([], lines, [], paper), False)

    def test_no_open_line(self):
        for group in groups_of(CLASP)[1:]:
            self.assertIs(good_knot(CLASP, [], group, []), True)
            self.assertIs(good_knot(CLASP, [], group, [group]), False)
            self.assertIs(good_knot(CLASP, [], group, [[]]), False)

    def test_a_group_of_one_block(self):
        # The two cells of 5 lie in one lane, but no block lies ahead of itself.
        self.assertIs(good_knot(CLASP, ["long"], [5], [[5]]), True)
        self.assertIs(good_knot(CLASP, ["long"], [5, 5], [[5]]), True)
        self.assertIs(good_knot(CLASP, ["long"], [5], [[5, 5]]), False)
        self.assertIs(good_knot(CLASP, ["long"], [5, 7], [[5, 5, 7]]), False)
        self.assertIs(good_knot(CLASP, ["long"], [5, 7], [[5, 7]]), True)
        self.assertIs(good_knot(CLASP, ["long"], [5, 7], [[5]]), False)

    def test_a_number_that_is_no_block_in_the_paper(self):
        for number in (-1, 0, 6, GREAT, -GREAT):
            with self.subTest(number):
                self.assertIs(good_knot(CLASP, ["long"], [5, 7], [[5, 7, number]]), False)
                self.assertIs(good_knot(CLASP, ["long"], [5], [[number]]), False)

    def test_rounds_of_the_other_lines(self):
        # 4 and 6 hold each other to the north, not to the east.
        stack = [(4, [(0, 0, 0), (0, 2, 0)]), (6, [(0, 1, 0)])]
        self.assertIs(good_knot(stack, ["broad"], [4, 6], [[4, 6]]), True)
        self.assertIs(good_knot(stack, ["long"], [4, 6], [[4, 6]]), False)
        self.assertIs(good_knot(stack, ["long", "broad"], [4, 6], [[4, 6], [4, 6]]), False)


class CorePaper(WoodCase):
    def test_is_a_paper_of_the_core(self):
        for stack, ways in itertools.product(STACKS, subsets(WAYS)):
            with self.subTest(stack=stack, ways=ways):
                group = core(stack, ways)
                told = core_paper(stack, ways)
                self.assertTrue(is_core_paper(stack, ways, group, told), told)
                self.assertIs(good_core(stack, ways, group, told), True)
                self.assertEqual({tuple}, {type(one) for one in told} or {tuple})
                self.assertIs(type(told), list)

    def test_an_empty_core(self):
        self.same(core_paper([], WAYS), [])
        self.same(core_paper([], []), [])
        self.same(core_paper([(3, [(0, 0, 0)])], WAYS), [])
        self.same(core_paper(CLASP, []), [])

    def test_by_name(self):
        told = core_paper(CLASP, WAYS)
        wanted = [(one, way, other) for one, other in ((1, 2), (2, 1)) for way in WAYS]
        self.same(sorted(told), sorted(wanted))

    def test_a_great_core(self):
        for far in (10 ** 12, 10 ** 26):
            with self.subTest(far), at_once():
                ring = [(10 ** 28 + at, [(far * at, 0, 0), (far * at + far + 1, 0, 0)]) for at in range(999)]
                numbers = [number for number, cells in ring]
                # The last one has none ahead, and each one goes out when those ahead are gone; so 5 closes the row.
                ring = [(5, [(far * -2, 0, 0), (far * 2000, 0, 0)]), *ring]
                told = core_paper(ring, ["west", "east"])
                self.assertEqual(len(told), 2000)
                self.assertIs(good_core(ring, ["east", "west"], [5, *numbers], told), True)
                self.assertIs(good_core(ring, ["east", "west"], [5, *numbers], told[1:]), False)

    def test_ways_in_any_order_and_one_twice(self):
        for stack in STACKS:
            for ways in (["up", "east", "up"], ["west", "east"], WAYS[::-1] + WAYS):
                with self.subTest(stack=stack, ways=ways):
                    told = core_paper(stack, ways)
                    self.assertTrue(is_core_paper(stack, ways, core(stack, ways), told))
                    self.assertIs(good_core(stack, ways[::-1], core(stack, ways), told), True)


class GoodCore(WoodCase):
    def test_changed_papers(self):
        seen = {True: 0, False: 0}
        chance = random.Random("triples")
        for stack, ways in itertools.product(STACKS[:12], (["east"], ["east", "west"], ["up", "north", "south"], WAYS)):
            for group in (core(stack, ways), list(dict(stack))):
                paper = core_paper(stack, ways)
                for changed in changed_triples(paper, [*dict(stack), 29, -1]):
                    chance.shuffle(changed)
                    with self.subTest(stack=stack, ways=ways, group=group, changed=changed):
                        wanted = is_core_paper(stack, ways, group, changed)
                        self.assertIs(good_core(stack, ways, group, changed), wanted)
                        seen[wanted] += 1
        self.assertTrue(min(seen.values()) > 50, seen)

    def test_other_groups_than_the_core(self):
        # 1, 2 and 3 hold one another to the east; 8 lies in the ring's lane, ahead of all.
        ring = [(1, [(0, 0, 0), (0, 1, 0)]), (2, [(1, 0, 0)]), (3, [(-1, 1, 0), (2, 0, 0)]), (8, [(9, 0, 0)])]
        paper = [(1, "east", 2), (2, "east", 3), (3, "east", 1)]
        self.assertIs(good_core(ring, ["east"], [3, 1, 2, 3], paper), True)
        self.assertIs(good_core(ring, ["east"], [1, 2, 3, 8], paper), False)
        self.assertIs(good_core(ring, ["east"], [1, 2], paper), False)
        self.assertIs(good_core(ring, ["east"], [1, 2], paper[:2]), False)
        self.assertIs(good_core(ring, ["east"], [1, 2, 3], [(1, "east", 8), *paper[1:]]), False)
        self.assertIs(good_core(ring, ["east"], [1, 2, 3], [(1, "east", 1), *paper[1:]]), False)
        self.assertIs(good_core(ring, ["east"], [1, 2, 3], [(1, "east", 3), *paper]), False)
        self.assertIs(good_core(ring, ["east"], [1, 2, 3], [*paper, (1, "west", 3)]), False)
        self.assertIs(good_core(ring, ["east", "west"], [1, 2, 3], paper), False)

    def test_no_group_and_no_way(self):
        for ways in ([], ["up"], WAYS):
            with self.subTest(ways):
                self.assertIs(good_core(CLASP, ways, [], []), True)
                self.assertIs(good_core([], ways, [], []), True)
                self.assertIs(good_core(CLASP, ways, [], [(1, "up", 2)]), False)
        self.assertIs(good_core(CLASP, [], [1, 2, 5], []), True)
        self.assertIs(good_core(CLASP, [], [1, 2], [(1, "up", 2)]), False)

    def test_a_text_that_is_no_way_in_the_paper(self):
        paper = core_paper(CLASP, ["up"])
        self.assertIs(good_core(CLASP, ["up"], [1, 2], paper), True)
        for text in NO_WAYS:
            with self.subTest(text):
                self.assertIs(good_core(CLASP, ["up"], [1, 2], [(1, text, 2), (2, "up", 1)]), False)
                self.assertIs(good_core(CLASP, ["up"], [1, 2], [*paper, (1, text, 2)]), False)
                self.assertIs(good_core(CLASP, [], [1, 2], [(1, text, 2), (2, text, 1)]), False)


class Refusals(WoodCase):
    def test_no_block(self):
        for number, lines in itertools.product((-1, 0, 6, GREAT), subsets(LINES)):
            for group in ([number], [1, number], [number, 2]):
                with self.subTest(group=group, lines=lines):
                    self.refused(NoBlock, "no block", knot_paper, CLASP, lines, group)
                    self.refused(NoBlock, "no block", knot_paper, [], lines, group)
                    for paper in ([], [[number]], [group] * len(lines)):
                        self.refused(NoBlock, "no block", good_knot, CLASP, lines, group, paper)
                    for ways in ([], WAYS):
                        for paper in ([], [(number, "up", 1)], [(1, "aside", 2)]):
                            self.refused(NoBlock, "no block", good_core, CLASP, ways, group, paper)

    def test_no_line_ahead_of_no_block(self):
        for text, stack in itertools.product(NO_LINES, ([], CLASP)):
            for lines in ([text], [text, "long"], ["long", "broad", text, "high"]):
                for group in ([], [1], [6]):
                    with self.subTest(lines=lines, stack=stack, group=group):
                        self.refused(BadLine, "bad line", knot_paper, stack, lines, group)
                        self.refused(BadLine, "bad line", good_knot, stack, lines, group, [[1], [1]])
                        self.refused(BadLine, "bad line", good_knot, stack, lines, group, [])

    def test_no_way_ahead_of_no_block(self):
        for text, stack in itertools.product(NO_WAYS, ([], CLASP)):
            for ways in ([text], [text, "east"], ["east", "up", text, "west"]):
                with self.subTest(ways=ways, stack=stack):
                    self.refused(BadWay, "bad way", core_paper, stack, ways)
                    for group in ([], [1], [6]):
                        self.refused(BadWay, "bad way", good_core, stack, ways, group, [])


class Kept(WoodCase):
    def test_nothing_is_kept(self):
        for stack, lines in itertools.product(([], *STACKS[:8]), subsets(LINES)):
            for group in [list(dict(stack)), *knots(stack, lines)]:
                with self.subTest(stack=stack, lines=lines, group=group):
                    self.keeps_nothing(knot_paper, stack, lines, group)
                    self.keeps_nothing(good_knot, stack, lines, group, knot_paper(stack, lines, group) or [group])

    def test_nothing_is_kept_of_cores(self):
        for stack, ways in itertools.product(([], *STACKS[:8]), ([], ["east"], WAYS)):
            with self.subTest(stack=stack, ways=ways):
                self.keeps_nothing(core_paper, stack, ways)
                self.keeps_nothing(good_core, stack, ways, core(stack, ways), core_paper(stack, ways))


if __name__ == "__main__":
    unittest.main()
