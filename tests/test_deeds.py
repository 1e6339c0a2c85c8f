"""The interface of gripwood/deeds.py; with [1] and [18]."""

import copy
import unittest

from gripwood import errors
from gripwood.deeds import done
from gripwood.workshop import Workshop
from tests.helper import NAMES, STORY, Model, Thrower, WoodCase, answers, shop_of, spoil

# A row of two, the first one pegged to the second, and a third one far off; the line high is barred.
SCENE = [("heap",), ("lay", 0, [(0, 0, 0)]), ("lay", 0, [(1, 0, 0)]), ("lay", 0, [(9, 0, 0)]),
         ("peg", 0, (0, 0, 0), "east", 2), ("bar", "high")]
REFUSED = [
    (("lay", 0, [(0, 0, 0)]), "Touch"), (("lay", 7, [(0, 0, 0)]), "NoPile"), (("lay", 0, []), "BadCell"),
    (("burn", 0), "Held"), (("burn", 8), "NoBlock"), (("carve", 0, (9, 0, 0)), "Last"),
    (("carve", 0, (5, 0, 0)), "NoWood"), (("plug", 2, (31, 0, 0)), "BadCell"), (("plug", 2, (5, 0, 0)), "Loose"),
    (("saw", 0, "long", 0), "NoCut"), (("saw", 0, "east", 0), "BadLine"), (("peg", 0, (0, 0, 0), "east", 1), "BadMeasure"),
    (("peg", 0, (0, 0, 0), "aside", 2), "BadWay"), (("unpeg", 3), "NoPeg"), (("pull", 0, "north", [0]), "Torn"),
    (("pull", 0, "up", [2]), "Barred"), (("pull", 0, "east", [0, 1]), "Stopped"), (("pull", 0, "up", []), "Whole"),
    (("home", 0, 0, "up"), "Same"), (("turn", 0, ("west", "north", "up")), "BadTurn"), (("shift", 0, (30, 0, 0)), "BadCell"),
    (("press", 4, "up"), "NoPile"), (("bar", "high"), "Barred"), (("unbar", "long"), "NotBarred"), (("draft", 1), "NoPile"),
]


class Done(WoodCase):
    def test_each_deed_and_what_it_tells(self):
        self.assertEqual({deed[0] for deed, told, text in STORY}, set(NAMES))
        shop = Workshop()
        for at, (deed, told, text) in enumerate(STORY):
            with self.subTest(deed):
                self.same(done(shop, deed), told)
                self.same(answers(shop), answers(shop_of([before for before, told, text in STORY[:at + 1]])))

    def test_refusals(self):
        self.assertEqual({deed[0] for deed, name in REFUSED}, set(NAMES) - {"heap"})
        shop = shop_of(SCENE)
        before = answers(shop)
        for deed, name in REFUSED:
            with self.subTest(deed):
                kind = getattr(errors, name)
                self.refused(kind, kind().word, done, shop, deed)
                self.same(answers(shop), before)

    def test_200_deeds(self):
        shop = Workshop()
        for at in range(200):
            self.same(done(shop, ("heap",)), at)
        self.refused(errors.TooMany, "too many", done, shop, ("heap",))

    def test_a_name_that_is_no_deed(self):
        for name in ("undo", "piles", "twin", "record", ""):
            self.refused(errors.BadText, "bad text", done, shop_of(SCENE), (name,))

    def test_fields(self):
        self.same(self.refused(errors.Touch, "touch", done, shop_of(SCENE), ("lay", 0, [(1, 0, 0)])).cell, (1, 0, 0))
        self.same(self.refused(errors.Held, "held", done, shop_of(SCENE), ("burn", 1)).by, 0)
        refusal = self.refused(errors.Stopped, "stopped", done, shop_of(SCENE), ("pull", 0, "west", [2]))
        self.assertIn((refusal.one, refusal.other), [(2, 0), (2, 1)])

    def test_as_the_methods(self):
        """Thrown by chance, each deed at two workshops: by its method, and as a tuple."""
        for seed in range(6):
            one, other, model = Workshop(), Workshop(), Model()
            thrower = Thrower(f"deeds {seed}", model)
            for name in ["heap", "lay", "lay", "lay", *thrower.chance.choices(NAMES, k=50)]:
                handed = thrower.handed(name)
                with self.subTest(deeds=model.deeds, deed=(name, *handed)):
                    if model.due(name, *handed):
                        word = model.due(name, *handed)[0][0]
                        with self.assertRaises(errors.WoodError) as caught:
                            done(other, (name, *handed))
                        self.assertEqual(caught.exception.word, word)
                    else:
                        model.do(name, *handed)
                        self.same(done(other, (name, *handed)), getattr(one, name)(*handed))
            self.same(answers(other), answers(one))


class Kept(WoodCase):
    def test_the_handed_deed_stays_and_is_not_kept(self):
        shop = Workshop()
        for deed, told, text in STORY:
            given = copy.deepcopy(deed)
            spoil(done(shop, given))
            self.same(given, deed)
            spoil(given)
        self.same(answers(shop), answers(shop_of([deed for deed, told, text in STORY])))

    def test_the_handed_deed_stays_when_it_is_refused(self):
        for deed, name in REFUSED:
            given = copy.deepcopy(deed)
            with self.assertRaises(errors.WoodError):
                done(shop_of(SCENE), given)
            self.same(given, deed)

    def test_deeds_of_the_journal_are_done_again(self):
        shop = shop_of([deed for deed, told, text in STORY])
        other = Workshop()
        for deed in shop.journal():
            done(other, deed)
        self.same(answers(other), answers(shop))


if __name__ == "__main__":
    unittest.main()
