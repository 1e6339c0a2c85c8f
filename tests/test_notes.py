"""Promises [23] and [24]: deeds and stacks, written and read; with [1] and [2]."""

import itertools
import random
import re
import unittest

from gripwood import errors
from gripwood.errors import BadText, NoPile, Touch
from gripwood.notes import read_deed, read_stack, relived, shown_deed, shown_stack
from gripwood.workshop import Workshop
from tests.helper import (LINES, NAMES, NO_LINES, NO_WAYS, STORY, TURNS, WAYS, Model, Thrower, WoodCase, answers,
                          shop_of, spoil, wild_stacks)

# The words of [23] as patterns, apart from the program.
NUMBER = "(?:0|-?[1-9][0-9]{0,8})"
CELL = f"{NUMBER},{NUMBER},{NUMBER}"
NUMBERS = f"(?:-|{NUMBER}(?:,{NUMBER})*)"
WAY = f"(?:{'|'.join(WAYS)})"
LINE = f"(?:{'|'.join(LINES)})"
TURN = f"(?:{'|'.join(','.join(turn) for turn in TURNS)})"
PATTERNS = {
    "heap": "heap", "lay": f"lay {NUMBER}(?: {CELL})+", "burn": f"burn {NUMBER}", "carve": f"carve {NUMBER} {CELL}",
    "plug": f"plug {NUMBER} {CELL}", "saw": f"saw {NUMBER} {LINE} {NUMBER}", "peg": f"peg {NUMBER} {CELL} {WAY} {NUMBER}",
    "unpeg": f"unpeg {NUMBER}", "pull": f"pull {NUMBER} {WAY} {NUMBERS}", "home": f"home {NUMBER} {NUMBER} {WAY}",
    "turn": f"turn {NUMBER} {TURN}", "shift": f"shift {NUMBER} {CELL}", "press": f"press {NUMBER} {WAY}",
    "bar": f"bar {LINE}", "unbar": f"unbar {LINE}", "draft": f"draft {NUMBER}",
}
DEED = re.compile("|".join(PATTERNS.values()))
ROW = re.compile(f"{NUMBER}(?: {CELL})+")

NO_NUMBERS = ["", "-", "--1", "-0", "+1", "+0", "00", "01", "-01", "007", "1.0", "1e3", "1_000", " 1", "1 ", "1\n", "\n1",
              "0x1", "one", "1234567890", "-1234567890", "0123456789", "1,", ",1", "1,2", "None", "True", "1-", "1-1"]
GOOD_NUMBERS = {"0": 0, "1": 1, "-1": -1, "10": 10, "-10": -10, "999999999": 999999999, "-999999999": -999999999}

MORE = [
    (("lay", -5, [(0, 0, 0), (0, 0, 0), (-31, 999999999, -999999999)]), "lay -5 0,0,0 0,0,0 -31,999999999,-999999999"),
    (("pull", 0, "down", []), "pull 0 down -"),
    (("pull", 3, "north", [-1]), "pull 3 north -1"),
    (("pull", 3, "south", [-1, 0, -1]), "pull 3 south -1,0,-1"),
    (("peg", -1, (-1, -2, -3), "west", -4), "peg -1 -1,-2,-3 west -4"),
    (("saw", 999999999, "broad", -999999999), "saw 999999999 broad -999999999"),
    (("shift", 2, (0, 0, 0)), "shift 2 0,0,0"),
    (("home", 10, 9, "up"), "home 10 9 up"),
]
TEXTS = [(deed, text) for deed, told, text in STORY] + MORE


def changed_texts(text):
    """A text with one sign left out, put in or changed, at each place."""
    for at in range(len(text) + 1):
        yield text[:at] + text[at + 1:]
        for sign in " \n-,0x+":
            yield text[:at] + sign + text[at:]
            yield text[:at] + sign + text[at + 1:]


class NoteCase(WoodCase):
    def bad(self, call, text):
        self.refused(BadText, "bad text", call, text)


class Deeds(NoteCase):
    def test_word_for_word_and_back(self):
        for deed, text in TEXTS:
            with self.subTest(text):
                self.same(shown_deed(deed), text)
                self.same(read_deed(text), deed)
        self.assertEqual({deed[0] for deed, text in TEXTS}, set(NAMES))

    def test_each_way_line_and_turn(self):
        for way in WAYS:
            self.same(read_deed(shown_deed(("press", 0, way))), ("press", 0, way))
        for line in LINES:
            self.same(read_deed(shown_deed(("unbar", line))), ("unbar", line))
        for turn in TURNS:
            self.same(shown_deed(("turn", 7, turn)), f"turn 7 {turn[0]},{turn[1]},{turn[2]}")
            self.same(read_deed(shown_deed(("turn", 7, turn))), ("turn", 7, turn))

    def test_numbers(self):
        for word, number in GOOD_NUMBERS.items():
            with self.subTest(word):
                self.same(read_deed(f"burn {word}"), ("burn", number))
                self.same(shown_deed(("burn", number)), f"burn {word}")
                self.same(read_deed(f"carve {word} {word},0,{word}"), ("carve", number, (number, 0, number)))
                self.same(read_deed(f"lay 0 0,{word},0"), ("lay", 0, [(0, number, 0)]))
                self.same(read_deed(f"pull 0 up 5,{word}"), ("pull", 0, "up", [5, number]))
                self.same(read_deed(f"saw 0 long {word}"), ("saw", 0, "long", number))
        for word in NO_NUMBERS:
            for text in (f"burn {word}", f"carve {word} 0,0,0", f"carve 0 {word},0,0", f"plug 0 0,{word},0",
                         f"lay 0 0,0,0 0,0,{word}", f"lay {word} 0,0,0", f"saw 0 long {word}", f"home 0 {word} up",
                         f"peg 0 0,0,0 up {word}", f"shift 0 0,0,{word}"):
                with self.subTest(text):
                    self.bad(read_deed, text)
        for word in NO_NUMBERS:
            if word not in ("-", "1,2"):
                with self.subTest(word):
                    self.bad(read_deed, f"pull 0 up {word}")
                    self.bad(read_deed, f"pull 0 up {word},1")
                    self.bad(read_deed, f"pull 0 up 1,{word}")

    def test_lists_of_numbers(self):
        for word in ("-,1", "1,-", "-,-", "1,,2", "1, 2", "1 2", "", ",", "--"):
            with self.subTest(word):
                self.bad(read_deed, f"pull 0 up {word}")

    def test_cells(self):
        for word in ("", "0", "0,0", "0,0,0,0", "0,0,", ",0,0", "0,,0", "0, 0, 0", "(0,0,0)", "0;0;0", "0,0,0,", "-",
                     "0.0.0", "0 0 0"):
            for text in (f"carve 0 {word}", f"lay 0 {word}", f"lay 0 0,0,0 {word}", f"lay 0 {word} 0,0,0",
                         f"shift 0 {word}", f"peg 0 {word} up 2"):
                with self.subTest(text):
                    self.bad(read_deed, text)

    def test_lay_without_a_cell(self):
        for text in ("lay", "lay 0", "lay 0 ", "lay 0 -", "lay ", "lay  0,0,0"):
            with self.subTest(text):
                self.bad(read_deed, text)

    def test_words_that_are_no_ways_lines_or_turns(self):
        for word in NO_WAYS:
            for text in (f"press 0 {word}", f"peg 0 0,0,0 {word} 2", f"pull 0 {word} 1", f"home 0 1 {word}"):
                with self.subTest(text):
                    self.bad(read_deed, text)
        for word in NO_LINES:
            for text in (f"bar {word}", f"unbar {word}", f"saw 0 {word} 1"):
                with self.subTest(text):
                    self.bad(read_deed, text)
        for words in itertools.product([*WAYS, "long", ""], repeat=3):
            if words not in TURNS:
                self.bad(read_deed, "turn 0 " + ",".join(words))
        for word in ("north", "north,west", "north,west,up,up", "north,west,up,", ",north,west,up", "north west up",
                     "north, west, up", "-", ""):
            with self.subTest(word):
                self.bad(read_deed, f"turn 0 {word}")

    def test_other_texts(self):
        for text in ("", " ", "\n", "-", "0", "Heap", "HEAP", "heaps", "hea", "undo", "redo", "cells 0", "where 0", "knots 0",
                     "core 0", "along 0 up 0", "piles", "journal", "twin", "plan 0", "('heap',)", "heap()", "heap,", "jump 0"):
            with self.subTest(text):
                self.bad(read_deed, text)

    def test_words_too_many_too_few_and_empty(self):
        for deed, text in TEXTS:
            words = text.split(" ")
            for at in range(len(words) + 1):
                for changed in (words[:at] + words[at + 1:], words[:at] + [""] + words[at:], words[:at] + ["0"] + words[at:],
                                words[:at] + ["up"] + words[at:], words[:at] + ["long"] + words[at:],
                                words[:at] + ["0,0,0"] + words[at:]):
                    self.judge(" ".join(changed))

    def test_line_ends_at_any_place(self):
        for deed, text in TEXTS:
            for at in range(len(text) + 1):
                with self.subTest(text=text, at=at):
                    self.bad(read_deed, text[:at] + "\n" + text[at:])
            self.bad(read_deed, text.replace(" ", "\n") + "\n")

    def judge(self, text):
        """Read where the patterns have it, and written again to the same text; else refused."""
        with self.subTest(text):
            if DEED.fullmatch(text):
                self.assertEqual(shown_deed(read_deed(text)), text)
            else:
                self.bad(read_deed, text)

    def test_changed_at_each_place(self):
        for deed, text in TEXTS:
            for changed in changed_texts(text):
                self.judge(changed)

    def test_thrown_together_of_words(self):
        chance = random.Random("words")
        some = [*NAMES, *WAYS, *LINES, *map(",".join, TURNS[:4]), *GOOD_NUMBERS, "0,0,0", "1,-2,3", "1,2", "-", "", "01"]
        for at in range(4000):
            name = chance.choice(NAMES)
            self.judge(" ".join([name, *chance.choices(some, k=chance.randrange(5))]))

    def test_bounds_and_things_that_are_not_there_are_not_looked_at(self):
        for deed, text in MORE:
            self.same(read_deed(text), deed)

    def test_journals(self):
        for seed in range(6):
            model = Model()
            thrower = Thrower(f"notes {seed}", model, 0)
            for name in ["heap", "lay", "lay", *thrower.chance.choices(NAMES, k=40)]:
                if name not in ("unpeg", "peg") or model.rods or model.wood:
                    handed = thrower.handed(name)
                    if not model.due(name, *handed):
                        model.do(name, *handed)
            for deed in model.deeds:
                with self.subTest(deed):
                    self.assertTrue(DEED.fullmatch(shown_deed(deed)))
                    self.same(read_deed(shown_deed(deed)), deed)


class Stacks(NoteCase):
    def test_word_for_word(self):
        stack = [(0, [(-1, 0, 0), (2, 0, 0)]), (5, [(1, 0, 0)]), (999999999, [(0, -999999999, 999999999)])]
        text = "0 -1,0,0 2,0,0\n5 1,0,0\n999999999 0,-999999999,999999999"
        self.same(shown_stack(stack), text)
        self.same(read_stack(text), stack)

    def test_the_empty_one(self):
        self.same(shown_stack([]), "")
        self.same(read_stack(""), [])

    def test_and_back(self):
        for stack in wild_stacks("notes", 40, most_blocks=6, most_cells=5, sides=(4, 4, 3)):
            with self.subTest(stack):
                self.same(read_stack(shown_stack(stack)), stack)
                self.is_stack(read_stack(shown_stack(stack)), [number for number, cells in stack])

    def test_what_is_no_stack(self):
        bad = ["\n", " ", "0", "0 ", " 0 0,0,0", "0 0,0,0 ", "0  0,0,0", "0 0,0,0\n", "\n0 0,0,0", "0 0,0,0\n\n1 1,0,0",
               "1 0,0,0\n0 1,0,0", "1 0,0,0\n1 1,0,0", "0 1,0,0 0,0,0", "0 0,0,0 0,0,0", "0 0,0,0\n1 0,0,0",
               "0 0,0,0 5,0,0\n1 1,0,0 5,0,0", "-1 0,0,0", "-1 0,0,0\n0 1,0,0", "-0 0,0,0", "00 0,0,0", "1234567890 0,0,0",
               "0 1234567890,0,0", "0 0,0", "0 0,0,0,0", "0 0,0,0\n1", "0 0,0,0\n1 ", "0 -", "-", "0,0,0", "0 0,0,0\r\n1 1,0,0",
               "0 0,0,0 1 1,0,0", "0 0,0,0;1 1,0,0", "+1 0,0,0", "0 0,0,0\n1 2,0,0 1,0,0", "0 0,0,-0", "0 0,1,0 0,0,5"]
        for text in bad:
            with self.subTest(text):
                self.bad(read_stack, text)

    def test_changed_at_each_place(self):
        text = "0 -1,0,0 2,0,0\n5 1,0,0\n12 0,-9,10"
        for changed in changed_texts(text):
            with self.subTest(changed):
                rows = changed.split("\n")
                good = all(ROW.fullmatch(row) for row in rows)
                if good:
                    stack = [(int(row.split()[0]), [tuple(map(int, word.split(","))) for word in row.split()[1:]])
                             for row in rows]
                    cells = [cell for number, some in stack for cell in some]
                    numbers = [number for number, some in stack]
                    good = (numbers == sorted(set(numbers)) and numbers[0] >= 0 and len(set(cells)) == len(cells)
                            and all(some == sorted(some) for number, some in stack))
                if good:
                    self.same(read_stack(changed), stack)
                    self.assertEqual(shown_stack(stack), changed)
                else:
                    self.bad(read_stack, changed)


class Relived(NoteCase):
    def test_no_rows(self):
        shop = relived([])
        self.assertIs(type(shop), Workshop)
        self.same(answers(shop), answers(Workshop()))

    def test_the_journal_of_a_workshop(self):
        shop = shop_of([deed for deed, told, text in STORY])
        for many in range(len(STORY) + 1):
            rows = [text for deed, told, text in STORY[:many]]
            self.same(answers(relived(rows)), answers(shop_of([deed for deed, told, text in STORY[:many]])))
        self.same(answers(relived([shown_deed(deed) for deed in shop.journal()])), answers(shop))

    def test_journals_by_chance(self):
        for seed in range(8):
            model, shop = Model(), Workshop()
            thrower = Thrower(f"relived {seed}", model)
            for name in ["heap", "lay", "lay", "lay", *thrower.chance.choices(NAMES, k=50)]:
                handed = thrower.handed(name)
                # Far shifts of a pile without blocks have more figures than are written.
                if not model.due(name, *handed) and "000000000" not in repr(handed):
                    model.do(name, *handed)
                    getattr(shop, name)(*handed)
            other = relived([shown_deed(deed) for deed in shop.journal()])
            self.same(answers(other), answers(shop))
            self.same([other.heap(), other.draft(other.piles()[0])], [shop.heap(), shop.draft(shop.piles()[0])])

    def test_the_first_refusal_is_raised(self):
        rows = ["heap", "lay 0 0,0,0", "lay 0 0,0,0", "lay 9 0,0,0", "what"]
        self.same(self.refused(Touch, "touch", relived, rows).cell, (0, 0, 0))
        self.refused(NoPile, "no pile", relived, rows[:2] + rows[3:])
        self.refused(BadText, "bad text", relived, rows[:2] + rows[4:] + rows[2:4])
        self.refused(BadText, "bad text", relived, ["undo"])
        self.refused(BadText, "bad text", relived, ["heap", "", "lay 9 0,0,0"])
        self.refused(errors.TooMany, "too many", relived, ["heap"] * 201 + ["what"])
        self.assertEqual(len(relived(["heap"] * 200).piles()), 200)

    def test_no_later_row_is_looked_at(self):
        class Rows(list):
            def __iter__(self):
                yield "heap"
                yield "burn 0"
                raise AssertionError("a later row was looked at")

        with self.assertRaises(errors.NoBlock):
            relived(Rows(["heap", "burn 0", "heap"]))

    def test_the_handed_rows_stay(self):
        rows = [text for deed, told, text in STORY]
        given = list(rows)
        shop = relived(given)
        self.same(given, rows)
        spoil(given)
        self.same(answers(shop), answers(relived(rows)))


class Kept(NoteCase):
    def test_nothing_is_kept(self):
        for deed, text in TEXTS:
            self.keeps_nothing(shown_deed, deed)
            self.keeps_nothing(read_deed, text)
        for stack in wild_stacks("kept notes", 10):
            self.keeps_nothing(shown_stack, stack)
            self.keeps_nothing(read_stack, shown_stack(stack))

    def test_a_read_deed_is_done_and_changed(self):
        deed = read_deed("lay 0 1,0,0 0,0,0")
        shop = shop_of([("heap",)])
        shop.lay(*deed[1:])
        spoil(deed)
        self.same(shop.journal()[1], ("lay", 0, [(1, 0, 0), (0, 0, 0)]))
        self.same(read_deed("lay 0 1,0,0 0,0,0"), ("lay", 0, [(1, 0, 0), (0, 0, 0)]))


if __name__ == "__main__":
    unittest.main()
