"""Promise [15]: plans and buildings; with [1], [2], [3], [6], [7] and [10]."""

import itertools
import random
import unittest

from gripwood.errors import BadLine, BadPull, BadWay, NoBlock
from gripwood.knots import knots
from gripwood.plans import built, judged, plan, pushes
from tests.helper import (BACKS, GREAT, LINE_WAYS, LINES, NO_LINES, NO_WAYS, WAYS, WoodCase, all_turns, at_once,
                          groups_of, leaves_on, led_line, led_stack, part, pulls_on, shuffled, subsets, wild_stacks)

# A row of three to the east, 4 being the middle one; 9 clasps 4 to the north.
ROW = [(1, [(0, 0, 0)]), (4, [(1, 0, 0)]), (6, [(2, 0, 0)]), (9, [(1, -1, 0), (1, 1, 0)])]
WILD = (wild_stacks("plans", 12, most_cells=4) + wild_stacks("dense plans", 12, most_blocks=5, most_cells=5,
                                                             sides=(3, 3, 3), least_cells=3))
STACKS = [ROW, *WILD]


def numbers(stack):
    return [number for number, cells in stack]


def pull_by_words(stack, parts, lines, way, group):
    """The parts that a pull leaves, by the words of [15], or None where it cannot be done."""
    if way not in [open_way for line in lines for open_way in LINE_WAYS[line]]:
        return None
    chosen = sorted(set(group))
    for one in parts:
        rest = sorted(set(one) - set(chosen))
        if chosen and rest and set(chosen) <= set(one) and leaves_on(part(stack, one), way, chosen):
            return sorted([other for other in parts if other != one] + [chosen, rest])
    return None


def judged_by_words(stack, lines, pulls):
    """The parts that are left, or the place of the first pull that cannot be done."""
    parts = [numbers(stack)] if stack else []
    for at, (way, group) in enumerate(pulls):
        parts = pull_by_words(stack, parts, lines, way, group)
        if parts is None:
            return at
    return parts


def built_by_words(stack, parts, wanted):
    """The parts that are left, or the place of the first push that cannot be done."""
    parts = sorted(sorted(group) for group in parts)
    for at, (way, group, rest) in enumerate(wanted):
        one, other = sorted(set(group)), sorted(set(rest))
        if way not in WAYS or one not in parts or other not in parts or one == other:
            return at
        if not leaves_on(part(stack, one + other), BACKS[way], one):
            return at
        parts = sorted([left for left in parts if left not in (one, other)] + [sorted(one + other)])
    return parts


def any_pulls(stack, lines, chance):
    """A list of pulls chosen by chance, each of which can be done in its turn."""
    parts = [stack] if stack else []
    found = []
    while parts:
        one = parts.pop(chance.randrange(len(parts)))
        pulls = pulls_on(one, lines)
        if pulls:
            way, group = chance.choice(pulls)
            found.append((way, group))
            parts += [part(one, group), [block for block in one if block[0] not in group]]
    return found


def changed_pulls(pulls, stack):
    """Pulls with one left out, twice, exchanged, on another way, or of another group."""
    for at, (way, group) in enumerate(pulls):
        before, behind = pulls[:at], pulls[at + 1:]
        yield before + behind
        yield before + [pulls[at]] * 2 + behind
        yield behind + before
        for text in (*WAYS, "long", ""):
            yield before + [(text, group)] + behind
        for number in [*dict(stack), -1, 29]:
            yield before + [(way, [*group, number])] + behind
            yield before + [(way, [other for other in group if other != number])] + behind
        yield before + [(way, [])] + behind
        yield before + [(way, numbers(stack))] + behind
        for later in range(at + 1, len(pulls)):
            yield before + [pulls[later]] + pulls[at + 1:later] + [pulls[at]] + pulls[later + 1:]


class Judging(WoodCase):
    def agrees(self, call, wanted, *handed):
        """What is told, or the place of the bad one."""
        if isinstance(wanted, int):
            self.assertEqual(self.refused(BadPull, "bad pull", call, *handed).at, wanted)
        else:
            self.same(call(*handed), wanted)


class Plan(WoodCase):
    def test_against_knots(self):
        for stack, lines in itertools.product(STACKS, subsets(LINES)):
            with self.subTest(stack=stack, lines=lines):
                told = plan(stack, lines)
                found = knots(stack, lines)
                self.assertEqual(len(told), len(found) - 1)
                self.same(judged_by_words(stack, lines, told), found)
                self.same(judged(stack, lines, told), found)

    def test_form(self):
        for stack, lines in itertools.product(STACKS, subsets(LINES)):
            with self.subTest(stack=stack, lines=lines):
                told = plan(stack, lines)
                self.assertIs(type(told), list)
                for pull in told:
                    self.assertIs(type(pull), tuple)
                    way, group = pull
                    self.assertIs(type(group), list)
                    self.assertEqual(group, sorted(set(group)))

    def test_none(self):
        for lines in subsets(LINES):
            with self.subTest(lines):
                self.same(plan([], lines), [])
                self.same(plan([(3, [(0, 0, 0)])], lines), [])
                self.same(plan([(1, [(0, 0, 0), (2, 0, 0)]), (2, [(1, 0, 0)])], ["long"]), [])
        for stack in STACKS:
            self.same(plan(stack, []), [])

    def test_lines_in_any_order_and_one_twice(self):
        for stack, lines in itertools.product(STACKS, itertools.permutations(LINES)):
            with self.subTest(stack=stack, lines=lines):
                told = plan(stack, [*lines, lines[1]])
                self.same(judged_by_words(stack, LINES, told), knots(stack, LINES))
                told = plan(stack, [lines[0], lines[0]])
                self.same(judged_by_words(stack, [lines[0]], told), knots(stack, [lines[0]]))

    def test_turned_and_far(self):
        for stack, turn in itertools.product(STACKS[:8], all_turns()):
            led = led_stack(stack, turn, (5, -10 ** 12, 10 ** 27))
            with self.subTest(stack=stack, turn=turn):
                lines = [led_line(line, turn) for line in ("long", "high")]
                self.same(judged(led, lines, plan(led, lines)), knots(stack, ["long", "high"]))

    def test_many_blocks_far_apart_and_great_numbers(self):
        for far in (10 ** 12, 10 ** 25):
            with self.subTest(far), at_once(60):
                chain = [(10 ** 28 + at, [(far * at, 0, 0)]) for at in range(500)]
                told = plan(chain, ["long"])
                self.assertEqual(len(told), 499)
                parts = judged(chain, ["long"], told)
                self.same(parts, [[number] for number, cells in chain])
                self.same(built(chain, parts, pushes(chain, told)), [numbers(chain)])


class Judged(Judging):
    def test_no_pulls(self):
        for lines in subsets(LINES):
            with self.subTest(lines):
                self.same(judged([], lines, []), [])
                for stack in STACKS:
                    self.same(judged(stack, lines, []), [numbers(stack)])

    def test_by_name(self):
        self.same(judged(ROW, LINES, [("up", [4, 9])]), [[1, 6], [4, 9]])
        self.same(judged(ROW, LINES, [("up", [9, 4, 9]), ("high", [])][:1]), [[1, 6], [4, 9]])
        self.same(judged(ROW, ["high", "long"], [("down", [9, 6]), ("east", [4]), ("west", [9])]),
                  [[1], [4], [6], [9]])
        self.agrees(judged, 1, ROW, ["high", "long"], [("down", [9, 6]), ("west", [4]), ("west", [9])])
        self.agrees(judged, 2, ROW, ["high", "long"], [("down", [9, 6]), ("east", [4]), ("west", [6, 4])])
        self.agrees(judged, 0, ROW, ["long"], [("up", [1])])
        self.agrees(judged, 0, ROW, ["long"], [("east", [1])])

    def test_pulls_chosen_by_chance_and_their_first_ones(self):
        chance = random.Random("judged")
        for stack, lines in itertools.product(STACKS, subsets(LINES)):
            pulls = any_pulls(stack, lines, chance)
            for many in range(len(pulls) + 1):
                with self.subTest(stack=stack, lines=lines, pulls=pulls[:many]):
                    mixed = [(way, shuffled(group, chance)) for way, group in pulls[:many]]
                    self.agrees(judged, judged_by_words(stack, lines, mixed), stack, lines, mixed)
            self.same(judged(stack, lines, pulls), knots(stack, lines))

    def test_changed_pulls(self):
        chance = random.Random("changed")
        seen = {True: 0, False: 0}
        for stack, lines in itertools.product(STACKS, (["long"], ["broad", "high"], LINES)):
            for pulls in (plan(stack, lines), any_pulls(stack, lines, chance)):
                for changed in changed_pulls(pulls, stack):
                    with self.subTest(stack=stack, lines=lines, changed=changed):
                        wanted = judged_by_words(stack, lines, changed)
                        self.agrees(judged, wanted, stack, lines, changed)
                        seen[isinstance(wanted, int)] += 1
        self.assertTrue(min(seen.values()) > 200, seen)

    def test_a_barred_line(self):
        for stack in STACKS:
            pulls = plan(stack, LINES)
            for line in LINES:
                lines = [other for other in LINES if other != line]
                with self.subTest(stack=stack, barred=line):
                    self.agrees(judged, judged_by_words(stack, lines, pulls), stack, lines, pulls)

    def test_texts_and_numbers_that_are_none(self):
        for text in NO_WAYS:
            with self.subTest(text):
                self.agrees(judged, 0, ROW, LINES, [(text, [1])])
                self.agrees(judged, 1, ROW, LINES, [("up", [1]), (text, [6]), ("up", [6])])
        for number in (-1, 0, 5, GREAT, -GREAT):
            with self.subTest(number):
                self.agrees(judged, 0, ROW, LINES, [("up", [number])])
                self.agrees(judged, 1, ROW, LINES, [("up", [1]), ("up", [6, number])])
                self.agrees(judged, 0, [], LINES, [("up", [number])])

    def test_nothing_and_everything_is_no_group_of_a_pull(self):
        self.agrees(judged, 0, ROW, LINES, [("up", [])])
        self.agrees(judged, 0, ROW, LINES, [("up", [1, 4, 6, 9])])
        self.agrees(judged, 1, ROW, LINES, [("up", [1]), ("up", [1])])
        self.agrees(judged, 1, ROW, LINES, [("up", [1, 4]), ("up", [4, 1, 4])])
        self.agrees(judged, 1, ROW, LINES, [("up", [1, 4]), ("up", [4, 9])])
        self.agrees(judged, 0, [], LINES, [("up", [])])

    def test_only_the_own_part_stops(self):
        # 4 has 6 ahead in the whole stack, but no more behind the first pull.
        self.agrees(judged, 0, ROW, LINES, [("east", [4])])
        self.same(judged(ROW, LINES, [("up", [6]), ("east", [4])]), [[1, 9], [4], [6]])


class Pushes(Judging):
    def test_a_plan_and_its_first_pulls(self):
        chance = random.Random("pushes")
        for stack, lines in itertools.product(STACKS, subsets(LINES)):
            for pulls in (plan(stack, lines), any_pulls(stack, lines, chance)):
                for many in range(len(pulls) + 1):
                    with self.subTest(stack=stack, lines=lines, pulls=pulls[:many]):
                        mixed = [(way, shuffled(group, chance)) for way, group in pulls[:many]]
                        told = pushes(stack, mixed)
                        self.same([(BACKS[way], group) for way, group, rest in told[::-1]], pulls[:many])
                        parts = judged(stack, LINES, mixed)
                        self.same(built_by_words(stack, parts, told), [numbers(stack)])
                        self.same(built(stack, parts, told), [numbers(stack)])

    def test_by_name(self):
        told = pushes(ROW, [("down", [9, 6]), ("east", [4, 4]), ("west", [9])])
        self.same(told, [("east", [9], [6]), ("west", [4], [1]), ("up", [6, 9], [1, 4])])

    def test_no_pulls(self):
        self.same(pushes([], []), [])
        for stack in STACKS:
            self.same(pushes(stack, []), [])

    def test_refusals(self):
        for text in NO_WAYS:
            with self.subTest(text):
                self.refused(BadWay, "bad way", pushes, ROW, [("up", [5]), (text, [1])])
        for number in (-1, 0, 5, GREAT):
            with self.subTest(number):
                self.refused(NoBlock, "no block", pushes, ROW, [("up", [1]), ("up", [number])])


class Built(Judging):
    def test_any_first_pushes(self):
        chance = random.Random("built")
        for stack, lines in itertools.product(STACKS, subsets(LINES)):
            pulls = any_pulls(stack, lines, chance)
            told = pushes(stack, pulls)
            parts = judged(stack, lines, pulls)
            for many in range(len(told) + 1):
                mixed = [(way, shuffled(group, chance), shuffled(rest, chance)) for way, group, rest in told[:many]]
                given = [chance.sample(group, len(group)) for group in parts]
                chance.shuffle(given)
                with self.subTest(stack=stack, parts=given, mixed=mixed):
                    self.agrees(built, built_by_words(stack, parts, mixed), stack, given, mixed)

    def test_changed_pushes(self):
        chance = random.Random("changed pushes")
        seen = {True: 0, False: 0}
        for stack in STACKS:
            pulls = any_pulls(stack, LINES, chance)
            told = pushes(stack, pulls)
            parts = judged(stack, LINES, pulls)
            for at, (way, group, rest) in enumerate(told):
                before, behind = told[:at], told[at + 1:]
                changes = [[], [told[at]] * 2, [(way, rest, group)], [(way, group, group)], [(way, [], rest)],
                           [(way, group, [])], [(way, group[1:], rest)], [(way, group, rest[:-1])]]
                changes += [[(text, group, rest)] for text in (*WAYS, "long", "")]
                changes += [[(way, [*group, number], rest)] for number in (*dict(stack), -1, 29)]
                changes += [[(way, group, [*rest, number])] for number in (*dict(stack), -1, 29)]
                for changed in changes:
                    with self.subTest(stack=stack, parts=parts, at=at, changed=changed):
                        whole = before + changed + behind
                        wanted = built_by_words(stack, parts, whole)
                        self.agrees(built, wanted, stack, parts, whole)
                        seen[isinstance(wanted, int)] += 1
        self.assertTrue(min(seen.values()) > 100, seen)

    def test_all_single_pushes(self):
        parts = [[1], [4, 9], [6]]
        for way, one, other in itertools.product(WAYS, groups_of(ROW), groups_of(ROW)):
            with self.subTest(way=way, one=one, other=other):
                wanted = built_by_words(ROW, parts, [(way, one, other)])
                self.agrees(built, wanted, ROW, parts, [(way, one, other)])

    def test_by_name(self):
        parts = [[6], [9], [1], [4]]
        self.same(built(ROW, parts, []), [[1], [4], [6], [9]])
        self.same(built(ROW, [[9, 4], [6, 1]], []), [[1, 6], [4, 9]])
        self.same(built(ROW, parts, [("east", [1], [4])]), [[1, 4], [6], [9]])
        # Brought from the east, 1 would have 4 ahead of it on the way back to the east.
        self.agrees(built, 0, ROW, parts, [("west", [1], [4])])
        self.agrees(built, 1, ROW, parts, [("up", [1], [4]), ("up", [4], [6])])
        self.agrees(built, 1, ROW, parts, [("up", [1], [4]), ("up", [1, 4, 6], [9])])
        self.agrees(built, 0, ROW, parts, [("north", [4], [9])])
        self.agrees(built, 0, ROW, parts, [("up", [9], [9])])
        self.same(built(ROW, parts, [("up", [4], [9]), ("down", [6, 6], [9, 4]), ("east", [1], [4, 6, 9])]),
                  [[1, 4, 6, 9]])

    def test_texts_and_numbers_that_are_none(self):
        parts = [[1], [4], [6], [9]]
        for text in NO_WAYS:
            with self.subTest(text):
                self.agrees(built, 1, ROW, parts, [("up", [1], [4]), (text, [6], [9])])
        for number in (-1, 0, 5, GREAT, -GREAT):
            with self.subTest(number):
                self.agrees(built, 0, ROW, parts, [("up", [number], [4])])
                self.agrees(built, 0, ROW, parts, [("up", [4], [number])])
                self.agrees(built, 0, [], [], [("up", [4], [number])])

    def test_of_nothing(self):
        self.same(built([], [], []), [])
        self.agrees(built, 0, ROW, [[], [1, 4, 6, 9]], [("up", [], [1, 4, 6, 9])])
        self.agrees(built, 0, ROW, [[], [1, 4, 6, 9]], [("up", [1, 4, 6, 9], [])])

    def test_parts_of_numbers_that_are_no_blocks(self):
        for number in (-1, 0, 5, GREAT):
            with self.subTest(number):
                self.refused(NoBlock, "no block", built, ROW, [[1, 4], [6, 9], [number]], [])
                self.refused(NoBlock, "no block", built, ROW, [[1, 4], [6, 9, number]], [("aside", [1], [2])])


class Refusals(WoodCase):
    def test_no_line_ahead_of_a_bad_pull(self):
        for text, stack in itertools.product(NO_LINES, ([], ROW)):
            for lines in ([text], [text, "long"], ["long", "broad", text, "high"]):
                with self.subTest(lines=lines, stack=stack):
                    self.refused(BadLine, "bad line", plan, stack, lines)
                    for pulls in ([], [("up", [5])], [("aside", [1])]):
                        self.refused(BadLine, "bad line", judged, stack, lines, pulls)


class Kept(WoodCase):
    def test_nothing_is_kept(self):
        for stack, lines in itertools.product(([], *STACKS[:10]), subsets(LINES)):
            with self.subTest(stack=stack, lines=lines):
                pulls = plan(stack, lines)
                self.keeps_nothing(plan, stack, lines)
                for many in range(len(pulls) + 1):
                    self.keeps_nothing(judged, stack, lines, pulls[:many])
                    self.keeps_nothing(pushes, stack, pulls[:many])
                    parts = judged(stack, lines, pulls[:many])
                    told = pushes(stack, pulls[:many])
                    for first in range(len(told) + 1):
                        self.keeps_nothing(built, stack, parts, told[:first])


if __name__ == "__main__":
    unittest.main()
