"""Promise [22]: pasts; with [1], [16] and [18]."""

import copy
import random
import unittest

from gripwood.errors import BadLine, NoPile, NothingBack, NothingForth, TooMany, WoodError
from gripwood.past import Past
from gripwood.workshop import Workshop
from tests.helper import NAMES, STORY, Thrower, WoodCase, answers, model_of, shop_of, spoil

DEEDS = [deed for deed, told, text in STORY]
# One deed of each kind, each of which gives a number or refuses for another reason where numbers differ.
PROBES = [("heap",), ("lay", 0, [(20, 20, 20)]), ("lay", 0, [(20, 20, 21)]), ("peg", 0, (20, 20, 20), "up", 2),
          ("draft", 0)]


class PastCase(WoodCase):
    def stands(self, past, deeds, undone):
        """The workshop of a past is as one on which just these deeds were done, the numbers to come and all."""
        wanted = shop_of(deeds)
        self.same(answers(past.shop), answers(wanted))
        self.same((past.backs(), past.forths()), (len(deeds), len(undone)))
        if len(deeds) <= 200 - len(PROBES) and 0 in past.shop.piles():
            twin = past.shop.twin()
            for name, *handed in PROBES:
                self.same(getattr(twin, name)(*handed), getattr(wanted, name)(*handed))


class ByName(PastCase):
    def test_at_first(self):
        past = Past()
        self.assertIs(type(past.shop), Workshop)
        self.stands(past, [], [])
        self.refused(NothingBack, "nothing back", past.undo)
        self.refused(NothingForth, "nothing forth", past.redo)
        self.stands(past, [], [])

    def test_each_deed_undone_and_redone(self):
        past = Past()
        for at, (deed, told, text) in enumerate(STORY):
            with self.subTest(deed):
                self.same(past.does(deed), told)
                self.stands(past, DEEDS[:at + 1], [])
                self.same(past.undo(), None)
                self.stands(past, DEEDS[:at], [deed])
                self.same(past.redo(), None)
                self.stands(past, DEEDS[:at + 1], [])
                self.refused(NothingForth, "nothing forth", past.redo)

    def test_all_undone_and_redone_in_runs(self):
        past = Past()
        for deed in DEEDS:
            past.does(deed)
        for many in (1, 3, len(DEEDS)):
            for at in range(1, many + 1):
                past.undo()
                self.stands(past, DEEDS[:-at], DEEDS[-at:])
            for at in range(many - 1, -1, -1):
                past.redo()
                self.stands(past, DEEDS[:len(DEEDS) - at], DEEDS[len(DEEDS) - at:])
            self.refused(NothingForth, "nothing forth", past.redo)
        for deed in DEEDS:
            past.undo()
        self.refused(NothingBack, "nothing back", past.undo)
        self.stands(past, [], DEEDS)

    def test_numbers_are_given_as_if_the_deed_had_never_been_done(self):
        past = Past()
        past.does(("heap",))
        self.same(past.does(("lay", 0, [(0, 0, 0)])), 0)
        past.undo()
        self.same(past.does(("lay", 0, [(5, 0, 0)])), 0)
        self.same(past.shop.cells(0), [(5, 0, 0)])

    def test_a_deed_that_is_done_lets_go_what_could_be_done_again(self):
        past = Past()
        for deed in DEEDS[:5]:
            past.does(deed)
        past.undo()
        past.undo()
        self.same((past.backs(), past.forths()), (3, 2))
        past.does(("bar", "long"))
        self.stands(past, [*DEEDS[:3], ("bar", "long")], [])
        self.refused(NothingForth, "nothing forth", past.redo)
        past.undo()
        self.stands(past, DEEDS[:3], [("bar", "long")])

    def test_a_refused_deed_lets_nothing_go(self):
        past = Past()
        for deed in DEEDS[:5]:
            past.does(deed)
        past.undo()
        past.undo()
        self.refused(BadLine, "bad line", past.does, ("bar", "far"))
        self.refused(NoPile, "no pile", past.does, ("draft", 9))
        self.stands(past, DEEDS[:3], DEEDS[3:5])
        past.redo()
        past.redo()
        self.stands(past, DEEDS[:5], [])

    def test_200_deeds_and_room_behind_an_undoing(self):
        past = Past()
        for at in range(200):
            self.same(past.does(("heap",)), at)
        self.refused(TooMany, "too many", past.does, ("heap",))
        self.same((past.backs(), past.forths()), (200, 0))
        past.undo()
        self.refused(NoPile, "no pile", past.does, ("draft", 199))
        past.redo()
        self.refused(TooMany, "too many", past.does, ("bar", "long"))
        past.undo()
        past.undo()
        self.same(past.does(("bar", "long")), None)
        self.same((past.backs(), past.forths()), (199, 0))
        self.same(past.does(("heap",)), 198)
        self.refused(TooMany, "too many", past.does, ("heap",))
        for at in range(200):
            past.undo()
        self.refused(NothingBack, "nothing back", past.undo)
        for at in range(200):
            past.redo()
        self.same(past.shop.journal(), [("heap",)] * 198 + [("bar", "long"), ("heap",)])

    def test_a_kept_plan_stays_behind_undo_and_redo(self):
        past = Past()
        for deed in [("heap",), *[("lay", 0, [(x, y, 0)]) for x in range(3) for y in range(3)], ("draft", 0)]:
            past.does(deed)
        kept = past.shop.plan(0)
        self.assertEqual(len(kept), 8)
        past.does(("burn", 4))
        good = past.shop.plan_good(0)
        past.undo()
        self.same((past.shop.plan(0), past.shop.plan_good(0)), (kept, None))
        past.redo()
        self.same((past.shop.plan(0), past.shop.plan_good(0)), (kept, good))
        past.undo()
        past.undo()
        past.redo()
        self.same((past.shop.plan(0), past.shop.plan_pile(0)), (kept, 0))


class ByChance(PastCase):
    def test_runs(self):
        many = {"done": 0, "refused": 0, "undone": 0, "redone": 0, "nothing": 0}
        for seed in range(12):
            chance = random.Random(f"past {seed}")
            past, standing, undone = Past(), [], []
            for at in range(60):
                choice = chance.choice(["does"] * 6 + ["undo", "undo", "undo", "redo", "redo"])
                if choice == "does" or at < 4:
                    thrower = Thrower(f"{seed} {at}", model_of(standing))
                    name = ["heap", "lay", "lay", "lay"][at] if at < 4 else chance.choice([*NAMES, "lay", "lay"])
                    deed = (name, *thrower.handed(name))
                    due = thrower.model.due(*deed)
                    if due:
                        with self.assertRaises(WoodError) as caught:
                            past.does(copy.deepcopy(deed))
                        self.assertEqual(caught.exception.word, due[0][0])
                        many["refused"] += 1
                    else:
                        self.same(past.does(copy.deepcopy(deed)), thrower.model.do(*deed))
                        standing, undone = [*standing, deed], []
                        many["done"] += 1
                elif choice == "undo" and standing:
                    self.same(past.undo(), None)
                    undone.append(standing.pop())
                    many["undone"] += 1
                elif choice == "redo" and undone:
                    self.same(past.redo(), None)
                    standing.append(undone.pop())
                    many["redone"] += 1
                else:
                    kind, word = {"undo": (NothingBack, "nothing back"), "redo": (NothingForth, "nothing forth")}[choice]
                    self.refused(kind, word, getattr(past, choice))
                    many["nothing"] += 1
                with self.subTest(seed=seed, standing=standing, undone=undone):
                    self.stands(past, standing, undone)
        self.assertTrue(min(many.values()) > 20, many)


class Apart(PastCase):
    def test_two_pasts(self):
        one, other = Past(), Past()
        one.does(("heap",))
        one.does(("bar", "long"))
        one.undo()
        self.stands(other, [], [])
        self.same(other.does(("heap",)), 0)
        other.undo()
        self.stands(one, [("heap",)], [("bar", "long")])

    def test_handed_deeds_stay_and_are_not_kept(self):
        past = Past()
        for deed in DEEDS:
            given = copy.deepcopy(deed)
            spoil(past.does(given))
            self.same(given, deed)
            spoil(given)
        for at in range(6, 0, -1):
            past.undo()
        past.redo()
        self.stands(past, DEEDS[:-5], DEEDS[-5:])

    def test_told_lists_are_not_kept(self):
        past = Past()
        for deed in DEEDS:
            past.does(deed)
        for told in answers(past.shop).values():
            spoil(told)
        past.undo()
        for told in answers(past.shop).values():
            spoil(told)
        past.redo()
        self.stands(past, DEEDS, [])

    def test_a_workshop_that_was_the_pasts_changes_nothing_there(self):
        past = Past()
        past.does(("heap",))
        past.does(("lay", 0, [(0, 0, 0)]))
        held = past.shop
        past.undo()
        if held is not past.shop:
            held.lay(0, [(5, 5, 5)])
        past.redo()
        self.stands(past, [("heap",), ("lay", 0, [(0, 0, 0)])], [])

    def test_a_twin_goes_its_own_way(self):
        past = Past()
        past.does(("heap",))
        twin = past.shop.twin()
        twin.heap()
        past.undo()
        self.stands(past, [], [("heap",)])
        self.same(twin.piles(), [0, 1])


if __name__ == "__main__":
    unittest.main()
