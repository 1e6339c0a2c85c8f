"""Promise [25]: the desk; with [1], [18], [22] and [23]."""

import random
import unittest

from gripwood.desk import Desk
from gripwood.notes import shown_deed
from gripwood.past import Past
from tests.helper import NAMES, NO_WAYS, STORY, WAYS, Thrower, WoodCase, answers, model_of, shop_of, spoil


def by_words(told):
    """What is told, as [25] has it answered."""
    if told is None:
        return "ok"
    if isinstance(told, list):
        return ",".join(map(str, told)) or "-"
    return str(told)


def groups_by_words(groups):
    return " ".join(",".join(map(str, group)) for group in groups) or "-"


class DeskCase(WoodCase):
    def says(self, desk, talk):
        """Rows with their answers."""
        for row, answer in talk:
            with self.subTest(row):
                self.same(desk.say(row), answer)


class Talk(DeskCase):
    def test_at_first(self):
        desk = Desk()
        self.assertIs(type(desk.past), Past)
        self.same(desk.log(), [])
        self.says(desk, [("undo", "refused nothing back"), ("redo", "refused nothing forth"),
                         ("cells 0", "refused no block"), ("where 0", "refused no block"),
                         ("knots 0", "refused no pile"), ("core 0", "refused no pile"),
                         ("along 0 up 0", "refused no pile")])
        self.same(desk.log(), [])

    def test_each_deed(self):
        desk = Desk()
        for at, (deed, told, text) in enumerate(STORY):
            self.same(desk.say(text), by_words(told))
            self.same(desk.log(), [text for deed, told, text in STORY[:at + 1]])
        self.same(answers(desk.past.shop), answers(shop_of([deed for deed, told, text in STORY])))
        self.assertEqual({text.split()[0] for deed, told, text in STORY}, set(NAMES))

    def test_word_for_word(self):
        desk = Desk()
        self.says(desk, [
            ("heap", "0"), ("lay 0 1,0,0 0,0,0", "0"), ("lay 0 2,0,0", "1"), ("lay 0 0,5,-7", "2"),
            ("cells 0", "0,0,0 1,0,0"), ("cells 2", "0,5,-7"), ("where 2", "0"),
            ("knots 0", "0 1 2"), ("core 0", "-"), ("along 0 east 0", "0,1"), ("along 0 east 0,2,0", "0,1,2"),
            ("along 0 west 0", "0"), ("along 0 up -", "-"), ("peg 0 0,0,0 east 3", "0"), ("knots 0", "0,1 2"),
            ("along 0 west 1", "0,1"), ("saw 0 long 1", "3"), ("carve 0 0,5,-7", "refused last"),
            ("bar long", "ok"), ("bar broad", "ok"), ("bar high", "ok"), ("knots 0", "0,1,2,3"), ("core 0", "0,1,2,3"),
            ("pull 0 up 2", "refused barred"), ("unbar high", "ok"), ("pull 0 up 2", "1"), ("where 2", "1"),
            ("knots 1", "2"), ("undo", "ok"), ("where 2", "0"), ("knots 1", "refused no pile"), ("redo", "ok"),
            ("where 2", "1"), ("redo", "refused nothing forth"), ("heap", "2"), ("knots 2", "-"), ("core 2", "-"),
            ("draft 0", "0"), ("home 2 1 down", "ok"), ("burn 2", "ok"), ("burn 2", "refused no block"),
            ("burn 3", "refused held"), ("cells 2", "refused no block"),
        ])
        self.same(desk.log(), ["heap", "lay 0 1,0,0 0,0,0", "lay 0 2,0,0", "lay 0 0,5,-7", "peg 0 0,0,0 east 3",
                               "saw 0 long 1", "bar long", "bar broad", "bar high", "unbar high", "pull 0 up 2", "undo",
                               "redo", "heap", "draft 0", "home 2 1 down", "burn 2"])

    def test_lists_that_deeds_tell(self):
        desk = Desk()
        self.says(desk, [("heap", "0"), ("lay 0 0,0,0 1,0,0 2,0,0 3,0,0 4,0,0 2,1,0", "0"), ("carve 0 0,0,0", "-"),
                         ("carve 0 2,0,0", "1,2"), ("saw 2 long 4", "3")])

    def test_each_refusal(self):
        desk = Desk()
        self.says(desk, [
            ("heap", "0"), ("lay 0 0,0,0", "0"), ("lay 0 1,0,0", "1"), ("lay 0 9,0,0 9,0,1", "2"), ("bar broad", "ok"),
            ("lay 0 31,0,0", "refused bad cell"), ("lay 0 0,0,0 0,0,0", "refused bad cell"),
            ("lay 0 5,5,5 7,7,7", "refused loose"), ("lay 4 5,5,5", "refused no pile"), ("lay 0 0,0,0", "refused touch"),
            ("carve 0 0,0,0", "refused last"), ("carve 0 4,0,0", "refused no wood"), ("saw 2 high 0", "refused no cut"),
            ("peg 0 9,0,0 up 2", "refused same"), ("peg 0 0,0,0 east 13", "refused bad measure"),
            ("unpeg 0", "refused no peg"), ("pull 0 up 0,1,2", "refused whole"), ("pull 0 up -", "refused whole"),
            ("pull 0 north 0", "refused barred"), ("pull 0 east 0", "refused stopped"), ("pull 0 up 7", "refused no block"),
            ("peg 0 0,0,0 east 2", "0"), ("pull 0 up 0", "refused torn"), ("burn 1", "refused held"),
            ("home 0 0 up", "refused same"), ("bar broad", "refused barred"), ("unbar long", "refused not barred"),
            ("draft 3", "refused no pile"), ("shift 0 0,0,30", "refused bad cell"), ("press 1 up", "refused no pile"),
            ("turn 1 east,north,up", "refused no pile"), ("along 0 up 0,5", "refused no block"),
            ("along 5 up 5", "refused no pile"),
        ])

    def test_200_deeds(self):
        desk = Desk()
        for at in range(200):
            self.same(desk.say("heap"), str(at))
        self.says(desk, [("heap", "refused too many"), ("undo", "ok"), ("heap", "199"), ("bar long", "refused too many")])
        self.assertEqual(len(desk.log()), 202)


class NoRows(DeskCase):
    def desk(self):
        desk = Desk()
        self.says(desk, [("heap", "0"), ("lay 0 0,0,0", "0"), ("lay 0 0,0,2", "1"), ("undo", "ok")])
        return desk

    def bad(self, *rows):
        desk = self.desk()
        before = (answers(desk.past.shop), desk.log(), desk.past.backs(), desk.past.forths())
        for row in rows:
            with self.subTest(row):
                self.same(desk.say(row), "refused bad text")
                self.same((answers(desk.past.shop), desk.log(), desk.past.backs(), desk.past.forths()), before)

    def test_none_of_these(self):
        self.bad("", " ", "\n", "what", "Undo", "UNDO", "undo ", " undo", "undo 0", "undo\n", "redo ", "redo 1", "redo redo",
                 "blocks 0", "piles", "pegs", "stack 0", "bodies 0", "plan 0", "journal", "twin", "log", "heap\n", " heap",
                 "heap 0", "lay 0", "lay 0 0,0", "bar east", "press 0 long", "turn 0 west,north,up", "burn 1234567890",
                 "burn 01", "burn -0", "pull 0 up", "pull 0 up 1,", "refused", "ok", "0", "-")

    def test_questions_with_other_words(self):
        for name in ("cells", "where", "knots", "core"):
            self.bad(name, f"{name} ", f"{name}  0", f"{name} 0 ", f" {name} 0", f"{name} 0 0", f"{name} 0 up",
                     f"{name} up", f"{name} -", f"{name} 00", f"{name} +0", f"{name} -0", f"{name} 1234567890",
                     f"{name} -1234567890", f"{name} 0\n", f"\n{name} 0", f"{name}\n0", f"{name} 0,0", f"{name} 0,",
                     f"{name}0", f"{name.upper()} 0", f"{name} x")

    def test_along_with_other_words(self):
        self.bad("along", "along 0", "along 0 up", "along up 0", "along 0 up 0 0", "along 0 up ", "along 0 up 0 ",
                 "along  0 up 0", "along 0  up 0", "along 0 up  0", "along 0 up 0,", "along 0 up ,0", "along 0 up 00",
                 "along 0 up 1234567890", "along 1234567890 up 0", "along 0 up 0\n", "along 0 up -,0", "along - up 0",
                 "along 0 up --", "along 0,0 up 0", "along 0 up 0 1", "along 0 long 0", "Along 0 up 0", "along 0 up 0,-0")
        for way in NO_WAYS:
            self.bad(f"along 0 {way} 0", f"along 7 {way} 7")

    def test_nine_figures(self):
        desk = self.desk()
        for word in ("999999999", "-999999999", "-1", "7"):
            self.says(desk, [(f"cells {word}", "refused no block"), (f"where {word}", "refused no block"),
                             (f"knots {word}", "refused no pile"), (f"core {word}", "refused no pile"),
                             (f"along {word} up 0", "refused no pile"), (f"along 0 up {word}", "refused no block"),
                             (f"along 0 up 0,{word}", "refused no block")])


class Log(DeskCase):
    def test_a_list_of_its_own(self):
        desk = Desk()
        desk.say("heap")
        spoil(desk.log())
        self.same(desk.log(), ["heap"])
        desk.say("undo")
        log = desk.log()
        desk.say("redo")
        self.same(log, ["heap", "undo"])
        self.same(desk.log(), ["heap", "undo", "redo"])

    def test_only_what_did_something(self):
        desk = Desk()
        for row in ("undo", "heap", "heap ", "cells 0", "knots 0", "redo", "lay 1 0,0,0", "lay 0 0,0,0", "core 0", "undo",
                    "where 0", "redo", "redo", "what"):
            desk.say(row)
        self.same(desk.log(), ["heap", "lay 0 0,0,0", "undo", "redo"])


class ByHand(DeskCase):
    def test_the_next_question_answers_it(self):
        desk = Desk()
        desk.past.does(("heap",))
        desk.past.does(("lay", 0, [(0, 0, 0)]))
        self.says(desk, [("cells 0", "0,0,0"), ("knots 0", "0")])
        desk.past.does(("plug", 0, (0, 0, 1)))
        self.says(desk, [("cells 0", "0,0,0 0,0,1")])
        desk.past.undo()
        self.says(desk, [("cells 0", "0,0,0"), ("redo", "ok"), ("cells 0", "0,0,0 0,0,1")])
        desk.past.shop.lay(0, [(5, 0, 0)])
        self.says(desk, [("knots 0", "0 1"), ("where 1", "0"), ("heap", "1")])
        self.same(desk.log(), ["redo", "heap"])

    def test_two_desks(self):
        one, other = Desk(), Desk()
        self.says(one, [("heap", "0"), ("lay 0 0,0,0", "0")])
        self.says(other, [("cells 0", "refused no block"), ("heap", "0"), ("undo", "ok")])
        self.says(one, [("cells 0", "0,0,0")])
        self.same((one.log(), other.log()), (["heap", "lay 0 0,0,0"], ["heap", "undo"]))


class ByChance(DeskCase):
    def test_long_talks(self):
        many = {}
        for seed in range(20):
            desk, standing, undone, log = Desk(), [], [], []
            chance = random.Random(f"desk {seed}")
            for at in range(70):
                thrower = Thrower(f"desk {seed} {at}", model_of(standing), 15)
                row, answer, does = self.thrown(thrower, chance, at, standing, undone)
                with self.subTest(seed=seed, standing=standing, row=row):
                    self.same(desk.say(row), answer)
                    log += [row] if does else []
                    self.same(desk.log(), log)
                key = (row.split(" ")[0], answer.startswith("refused"))
                many[key] = many.get(key, 0) + 1
            self.same(answers(desk.past.shop), answers(shop_of(standing)))
        for name in ("cells", "where", "knots", "core", "along", "redo", "lay", "pull", "home", "saw"):
            self.assertTrue(many.get((name, False), 0) >= 3 and many.get((name, True), 0) >= 3, (name, many))

    def thrown(self, thrower, chance, at, standing, undone):
        """A row, its answer, and whether it does something; the two lists of deeds follow it."""
        model = thrower.model
        kind = "deed" if at < 5 else chance.choice(["deed"] * 5 + ["undo", "undo", "redo", "redo"] + ["question"] * 4)
        if kind == "undo" or kind == "redo":
            source, target = (standing, undone) if kind == "undo" else (undone, standing)
            if not source:
                return kind, "refused nothing back" if kind == "undo" else "refused nothing forth", False
            target.append(source.pop())
            return kind, "ok", True
        if kind == "question":
            return *self.question(thrower, chance), False
        name = ["heap", "lay", "lay", "lay", "lay"][at] if at < 5 else chance.choice([*NAMES, "lay", "pull"])
        deed = (name, *thrower.handed(name))
        row = shown_deed(deed)
        if self.unread(deed):
            return row, "refused bad text", False
        due = model.due(*deed)
        if due:
            return row, "refused " + due[0][0], False
        told = model.do(*deed)
        standing.append(deed)
        undone.clear()
        return row, by_words(told), True

    def unread(self, deed):
        """Whether a thrown deed has a word or a number that is not written, or a list of cells without one."""
        words = [one for one in deed[1:] if isinstance(one, str)]
        known = {"saw": ["long", "broad", "high"], "bar": ["long", "broad", "high"], "unbar": ["long", "broad", "high"]}
        bad_turn = deed[0] == "turn" and deed[2] in [("west", "north", "up"), ("", "up", "x")]
        return (any(word not in known.get(deed[0], WAYS) for word in words) or bad_turn or "0000000000" in repr(deed)
                or deed[0] == "lay" and not deed[2])

    def question(self, thrower, chance):
        model = thrower.model
        name = chance.choice(["cells", "where", "knots", "core", "along"])
        if name in ("cells", "where"):
            block = thrower.one_of(model.wood, (-1, 99))
            if block not in model.wood:
                return f"{name} {block}", "refused no block"
            if name == "where":
                return f"where {block}", str(model.where(block))
            return f"cells {block}", " ".join(",".join(map(str, cell)) for cell in model.cells(block))
        pile = thrower.one_of(model.heaps, (-1, 99))
        way = chance.choice(WAYS)
        group = thrower.group(pile, way)
        group = [block for block in group if abs(block) < 10 ** 9]
        row = f"along {pile} {way} {by_words(group)}" if name == "along" else f"{name} {pile}"
        if pile not in model.heaps:
            return row, "refused no pile"
        if name == "knots":
            return row, groups_by_words(model.knots(pile))
        if name == "core":
            return row, by_words(model.core(pile))
        if set(group) - set(model.blocks(pile)):
            return row, "refused no block"
        return row, by_words(model.along(pile, way, group))


if __name__ == "__main__":
    unittest.main()
