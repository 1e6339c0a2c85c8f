"""Promises [16] to [21]: deeds thrown at workshops by seeded chance, judged by a model that is made by the words alone."""

import copy
import unittest

from gripwood import errors
from gripwood.workshop import Workshop
from tests.helper import NAMES, Model, Thrower, WoodCase, answers

KINDS = {kind().word: kind for kind in vars(errors).values() if isinstance(kind, type) and kind != errors.WoodError}

# All pairs of refusals of one deed that can be due at once, but for the 200 deeds, which are due with each of them.
BOTH = {
    "lay": ["bad cell+loose", "bad cell+no pile", "bad cell+touch", "bad cell+too many", "loose+no pile", "loose+touch",
            "loose+too many", "touch+too many"],
    "carve": ["held+last", "held+too many"],
    "plug": ["bad cell+no block", "bad cell+loose", "bad cell+too many", "touch+loose", "touch+too many",
             "loose+too many"],
    "saw": ["bad line+no block"],
    "peg": ["bad way+bad measure", "bad way+no pile", "bad way+too many", "bad measure+no pile", "bad measure+no wood",
            "bad measure+same", "bad measure+too many", "no pile+too many", "no wood+too many", "same+too many"],
    "pull": ["bad way+no pile", "bad way+no block", "bad way+whole", "bad way+torn", "no block+torn", "no block+barred",
             "no block+stopped", "whole+barred", "torn+barred", "torn+stopped", "barred+stopped"],
    "home": ["bad way+no pile", "bad way+same", "bad way+touch", "bad way+too many", "no pile+same", "same+touch",
             "same+barred", "touch+barred", "touch+stopped", "touch+too many", "barred+stopped", "barred+too many",
             "stopped+too many"],
    "turn": ["bad turn+no pile"],
    "press": ["bad way+no pile"],
}
# All refusals of each deed; each of them can be due when 200 deeds were done.
ALL = {
    "heap": [], "lay": ["bad cell", "loose", "no pile", "touch"], "burn": ["no block", "held"],
    "carve": ["no pile", "no wood", "held", "last"], "plug": ["bad cell", "no block", "touch", "loose"],
    "saw": ["bad line", "no block", "no cut"], "peg": ["bad way", "bad measure", "no pile", "no wood", "same"],
    "unpeg": ["no peg"], "pull": ["bad way", "no pile", "no block", "whole", "torn", "barred", "stopped"],
    "home": ["bad way", "no pile", "same", "touch", "barred", "stopped"], "turn": ["bad turn", "no pile"],
    "shift": ["no pile", "bad cell"], "press": ["bad way", "no pile"], "bar": ["bad line", "barred"],
    "unbar": ["bad line", "not barred"], "draft": ["no pile"],
}


class Judged(WoodCase):
    def doing(self, shop, model, name, handed):
        """Does a deed on both, judges what is told, and tells the words that were due."""
        due = model.due(name, *handed)
        given = copy.deepcopy(handed)
        if due:
            word, fields = due[0]
            refusal = self.refused(KINDS[word], word, getattr(shop, name), *given)
            if "met" in fields:
                self.assertIn((refusal.one, refusal.other), fields.pop("met"))
            for field in fields:
                self.same(getattr(refusal, field), fields[field])
        else:
            told = getattr(shop, name)(*given)
            self.same(told, model.do(name, *handed))
            if name == "draft":
                model.kept[told] = (handed[0], shop.plan(told))
                self.assertIsNone(model.plan_good(told))
                self.assertEqual(len(shop.plan(told)), max(0, len(model.knots(handed[0])) - 1))
        self.same(given, handed)
        return [word for word, fields in due]

    def scene(self, deeds):
        shop, model = Workshop(), Model()
        for name, *handed in deeds:
            self.assertEqual(self.doing(shop, model, name, handed), [])
        return shop, model

    def test_long_runs(self):
        done = {}
        for seed in range(40):
            shop, model = Workshop(), Model()
            thrower = Thrower(f"run {seed}", model)
            # Now and then more is laid than is taken away, so that piles do not stay empty.
            names = ["heap", *["lay"] * 4, "heap"] + thrower.chance.choices([*NAMES, "lay", "pull", "home", "peg", "peg", "peg"], k=48)
            for name in names:
                handed = thrower.handed(name)
                with self.subTest(seed=seed, journal=model.deeds, deed=(name, *handed)):
                    due = self.doing(shop, model, name, handed)
                    done[name] = done.get(name, 0) + (not due)
                    self.same(answers(shop), answers(model))
        self.assertTrue(min(done[name] for name in NAMES) >= 15, done)

    def scenes(self):
        """Workshops in which things are as full as they may be, with a barred line."""
        rods = [("lay", 0, [(x, y, -1) for x in range(-2, 3)]) for y in (-2, -1)]
        full_blocks = [("heap",), *rods, *[("lay", 0, [(x, y, z)]) for x in (-2, 0, 2) for y in (0, 1, 2)
                                           for z in (0, 1)], *[("lay", 0, [(x, -2, 1)]) for x in (-2, -1, 0, 1)]]
        plate = [[(x, y, z) for x in range(-4, 6) for y in range(-2, 2)] for z in range(-3, 3)]
        full_cells = [("heap",), *[("lay", 0, cells) for cells in plate]]
        pegged = [("peg", 0, (0, 0, 0), "up", 2)]
        more = [("heap",), ("lay", 1, [(0, 0, 0), (0, 0, 1)]), ("lay", 1, [(0, 1, 0)]), ("lay", 1, [(0, 3, 1)]),
                ("lay", 1, [(0, 3, 2), (0, 3, 3)]), ("lay", 1, [(-2, 0, 0)])]
        other = [("heap",), ("lay", 2, [(0, 1, 1), (0, 2, 1)]), ("lay", 2, [(2, 2, -2)]),
                 ("peg", 1, (0, 0, 0), "north", 2), ("bar", "long"), ("heap",), ("draft", 1),
                 ("heap",), ("lay", 4, [(-20, 0, 0)]), ("heap",), ("lay", 5, [(0, -20, 0)])]
        yield [*full_blocks, *pegged, ("peg", 0, (0, -2, -1), "north", 2), *more, *other]
        yield [*full_cells, *pegged, *more, *other]
        yield [*full_cells, *pegged * 39, *more, *other]
        yield [("heap",), ("lay", 0, [(0, 1, 0)]), *more, *other]

    def throw(self, deeds, names, many, seed):
        """Many deeds of each name, all at the same scene; tells for each name the lists of due words."""
        shop, model = self.scene(deeds)
        before = answers(shop)
        found = {name: [] for name in names}
        thrower = Thrower(seed, model, 30)
        for name in names * many:
            handed = thrower.handed(name)
            with self.subTest(deeds=deeds, deed=(name, *handed)):
                due = model.due(name, *handed)
                if due:
                    self.doing(shop, model, name, handed)
                else:
                    getattr(shop.twin(), name)(*handed)
                found[name].append([word for word, fields in due])
        self.same(answers(shop), before)
        return found

    def test_of_two_that_are_due_the_first_is_raised(self):
        seen = {}
        for at, deeds in enumerate(self.scenes()):
            for name, dues in self.throw(deeds, list(BOTH), 700, f"scene {at}").items():
                for due in dues:
                    for later in due[1:]:
                        seen.setdefault(name, set()).add(f"{due[0]}+{later}")
        for name in BOTH:
            self.assertEqual(sorted(set(BOTH[name]) - seen[name]), [], name)
            self.assertEqual(sorted(seen[name] - set(BOTH[name])), [], name)

    def test_200_deeds_behind_all_others(self):
        *first, last = self.scenes()
        deeds = last + [("shift", 0, (0, 0, 0))] * (200 - len(last))
        found = self.throw(deeds, NAMES, 800, "two hundred")
        for name in NAMES:
            words = {due[0] for due in found[name]}
            self.assertEqual(words, {*ALL[name], "too many"}, name)
            self.assertTrue(all(due[-1] == "too many" for due in found[name]))


if __name__ == "__main__":
    unittest.main()
