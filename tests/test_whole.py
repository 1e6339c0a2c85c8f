"""Promises over the whole program: every refusal, and piles that are pulled apart by kept plans and brought home."""

import unittest

from gripwood import errors
from gripwood.desk import Desk
from gripwood.notes import read_deed, relived, shown_deed
from gripwood.past import Past
from gripwood.plans import judged
from gripwood.turning import turned
from tests.helper import BACKS, WORDS, Model, Thrower, WoodCase, answers, shop_of

ROW = [("heap",), ("lay", 0, [(0, 0, 0)]), ("lay", 0, [(1, 0, 0), (2, 0, 0)]), ("lay", 0, [(3, 0, 0)]),
       ("peg", 0, (0, 0, 0), "east", 2), ("heap",), ("lay", 1, [(0, 0, 0), (0, 0, 1)]), ("bar", "high")]


def calls():
    """For each refusal one call that raises it."""
    shop = shop_of(ROW)
    return {
        "BadCell": (shop.lay, 0, []),
        "BadWay": (shop.press, 0, "aside"),
        "BadLine": (shop.bar, "deep"),
        "BadTurn": (turned, (0, 0, 0), ("west", "north", "up")),
        "BadMeasure": (shop.peg, 0, (0, 0, 0), "east", 13),
        "NoBlock": (shop.cells, 9),
        "NoPile": (shop.blocks, 9),
        "NoPeg": (shop.unpeg, 9),
        "NoPlan": (shop.plan, 0),
        "NoWood": (shop.carve, 0, (9, 9, 9)),
        "Loose": (shop.lay, 0, [(5, 0, 0), (7, 0, 0)]),
        "Touch": (shop.lay, 0, [(1, 0, 0)]),
        "Held": (shop.burn, 1),
        "Last": (shop.carve, 0, (3, 0, 0)),
        "NoCut": (shop.saw, 1, "high", 0),
        "Same": (shop.home, 0, 0, "east"),
        "Whole": (shop.pull, 0, "east", []),
        "Torn": (shop.pull, 0, "west", [0]),
        "Barred": (shop.pull, 0, "up", [2]),
        "NotBarred": (shop.unbar, "long"),
        "Stopped": (shop.pull, 0, "west", [2]),
        "TooMany": (shop_of([("heap",)] * 200).heap,),
        "BadPull": (judged, [], ["long"], [("up", [0])]),
        "NothingBack": (Past().undo,),
        "NothingForth": (Past().redo,),
        "BadText": (read_deed, "heap "),
    }


class Refusals(WoodCase):
    def test_each_by_its_own_class_and_word(self):
        self.assertEqual(sorted(calls()), sorted(WORDS))
        self.assertEqual(len(WORDS), 26)
        for name, (call, *handed) in calls().items():
            with self.subTest(name):
                refusal = self.refused(getattr(errors, name), WORDS[name], call, *handed)
                self.assertIsInstance(refusal, ValueError)
                self.assertEqual([other for other in WORDS if isinstance(refusal, getattr(errors, other))], [name])


def thrown_piles():
    """Deeds that make pile 0 of several blocks, with pegs and barred lines."""
    for seed in range(60):
        model = Model()
        thrower = Thrower(f"whole {seed}", model, 0)
        names = ["heap", *["lay"] * 14, *["peg"] * thrower.chance.randrange(4), *["bar"] * thrower.chance.randrange(3)]
        for name in names:
            handed = thrower.handed(name)
            if not model.due(name, *handed):
                model.do(name, *handed)
        yield model.deeds


class ApartAndHome(WoodCase):
    def pulled_apart(self, shop, does):
        """Does the kept plan of pile 0 pull by pull, each pull in the pile that holds the group by then."""
        pulled = []
        for way, group in shop().plan(0):
            pile, = {shop().where(block) for block in group}
            pulled.append((pile, does(("pull", pile, way, group)), way))
        return pulled

    def judge(self, deeds):
        """Pulled apart by its kept plan and brought home again; tells how many pulls there were."""
        past = Past()
        for deed in [*deeds, ("draft", 0)]:
            past.does(deed)
        before = answers(past.shop)
        plan, knots = past.shop.plan(0), past.shop.knots(0)
        self.assertEqual(len(plan), max(len(knots) - 1, 0))
        pulled = self.pulled_apart(lambda: past.shop, past.does)
        self.assertEqual([new for pile, new, way in pulled], list(range(1, len(pulled) + 1)))
        self.same(sorted(past.shop.blocks(pile) for pile in past.shop.piles()), knots or [[]])
        self.same(past.shop.plan(0), plan)
        for pile, other, way in pulled[::-1]:
            self.same(past.does(("home", pile, other, BACKS[way])), None)
        self.stays(past.shop, before)
        for at in range(2 * len(pulled)):
            past.undo()
            self.same(past.shop.plan(0), plan)
        self.same(answers(past.shop), before)
        for at in range(2 * len(pulled)):
            past.redo()
            self.same(past.shop.plan(0), plan)
        self.stays(past.shop, before)
        return len(pulled)

    def stays(self, shop, before):
        """All is answered as before, but for the journal."""
        told = answers(shop)
        del told["journal"]
        self.same(told, {question: before[question] for question in before if question != "journal"})

    def test_with_pegs_and_a_barred_line(self):
        # Two bodies clasp each other to the east, a third one lies on them, a fourth one in a hole of the first.
        deeds = [("heap",), ("lay", 0, [(x, y, 0) for x in range(4) for y in range(4) if (x, y) not in ((1, 1), (2, 2))]),
                 ("lay", 0, [(1, 1, 0)]), ("lay", 0, [(2, 2, 0), (2, 2, 1)]), ("lay", 0, [(3, 2, 1)]),
                 ("lay", 0, [(0, 0, 1), (0, 1, 1)]), ("lay", 0, [(9, 9, 9), (9, 9, 8)]), ("lay", 0, [(0, 0, 2)]),
                 ("peg", 0, (2, 2, 1), "east", 2), ("peg", 0, (0, 0, 2), "down", 2)]
        self.assertEqual(self.judge(deeds), 4)
        self.assertEqual(self.judge([*deeds, ("bar", "long")]), 4)
        self.assertEqual(self.judge([*deeds, ("bar", "high")]), 2)
        self.assertEqual(self.judge([*deeds, ("bar", "high"), ("bar", "long"), ("bar", "broad")]), 0)

    def test_thrown_together(self):
        many = [self.judge(deeds) for deeds in thrown_piles()]
        self.assertTrue(max(many) > 4, many)
        self.assertTrue(sum(name == "peg" for deeds in thrown_piles() for name, *handed in deeds) > 30)

    def test_nothing_to_pull(self):
        self.assertEqual(self.judge([("heap",)]), 0)
        self.assertEqual(self.judge([("heap",), ("lay", 0, [(0, 0, 0)])]), 0)

    def test_at_a_desk(self):
        for deeds in list(thrown_piles())[:15]:
            desk = Desk()
            for deed in [*deeds, ("draft", 0)]:
                self.assertNotIn("refused", desk.say(shown_deed(deed)))
            before = answers(desk.past.shop)
            pulled = self.pulled_apart(lambda: desk.past.shop, lambda deed: int(desk.say(shown_deed(deed))))
            for pile, other, way in pulled[::-1]:
                self.same(desk.say(f"home {pile} {other} {BACKS[way]}"), "ok")
            self.stays(desk.past.shop, before)
            self.same(answers(relived(desk.log())), answers(desk.past.shop))
            for at in range(2 * len(pulled)):
                self.same(desk.say("undo"), "ok")
            self.same(answers(desk.past.shop), before)


if __name__ == "__main__":
    unittest.main()
