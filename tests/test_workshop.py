"""Promises [16] to [21] by name: each deed done and refused, pegs and bodies, kept plans, twins and the journal."""

import copy
import itertools
import unittest

from gripwood.errors import (BadCell, BadLine, BadMeasure, BadTurn, BadWay, Barred, Held, Last, Loose, NoBlock, NoCut,
                             NoPeg, NoPile, NoPlan, NotBarred, NoWood, Same, Stopped, TooMany, Torn, Touch, Whole)
from gripwood.workshop import Workshop
from tests.helper import (BACKS, GREAT, LINES, NAMES, NO_LINES, NO_WAYS, STORY, TURNS, VECTORS, WAYS, WoodCase,
                          answers, led_vector, place_on, shop_of, spoil)

NO_NUMBERS = (-1, 7, 99, GREAT, -GREAT)
NO_TURNS = [("west", "north", "up"), ("east", "east", "up"), ("", "", ""), ("north", "west", "long"),
            ("up", "down", "east")]
STRAIGHT = ("east", "north", "up")


def rods(many, long, pile=0):
    """Deeds that lay so many straight blocks of so many cells, with no two of them in one lane but to the east."""
    return [("lay", pile, [(x, at // 5 * 2, at % 5 * 2) for x in range(long)]) for at in range(many)]


def done(*deeds):
    """A workshop in which these deeds were done, behind the heaping of pile 0."""
    return shop_of([("heap",), *deeds])


# Blocks 0, 1, 2 lie in a row to the east, 3 lies on top of 1, and 4 far off.
ROW = [("lay", 0, [(0, 0, 0)]), ("lay", 0, [(1, 0, 0), (2, 0, 0)]), ("lay", 0, [(3, 0, 0)]), ("lay", 0, [(1, 0, 1)]),
       ("lay", 0, [(9, 9, 9)])]


class ShopCase(WoodCase):
    def stays(self, shop, kind, word, name, *handed):
        """A refused deed, which changes nothing."""
        before = answers(shop)
        refusal = self.refused(kind, word, getattr(shop, name), *handed)
        self.same(answers(shop), before)
        return refusal


class Beginning(ShopCase):
    def test_without_anything(self):
        shop = Workshop()
        for question in (shop.piles, shop.pegs, shop.barred, shop.journal):
            self.same(question(), [])
        self.stays(shop, NoPile, "no pile", "blocks", 0)
        self.stays(shop, NoBlock, "no block", "cells", 0)
        self.stays(shop, NoPeg, "no peg", "peg_cells", 0)
        self.stays(shop, NoPlan, "no plan", "plan", 0)

    def test_each_method_is_of_the_class_itself(self):
        named = """heap lay burn carve plug saw peg unpeg pull home turn shift press bar unbar draft piles blocks pegs
        cells where peg_cells barred stack bodies body_stack knots along core plan plan_pile plan_good journal
        twin""".split()
        for name in named:
            self.assertIn(name, vars(Workshop))

    def test_arguments_by_name(self):
        shop = Workshop()
        pile = shop.heap()
        shop.lay(pile=pile, cells=[(0, 0, 0), (1, 0, 0), (2, 0, 0)])
        shop.lay(pile=pile, cells=[(0, 1, 0)])
        shop.plug(block=1, cell=(0, 2, 0))
        shop.carve(pile=pile, cell=(0, 2, 0))
        shop.saw(block=0, line="long", at=2)
        shop.unpeg(peg=shop.peg(pile=pile, cell=(0, 0, 0), way="north", many=2))
        shop.home(pile=pile, other=shop.pull(pile=pile, way="up", blocks=[1]), way="down")
        shop.turn(pile=pile, turn=STRAIGHT)
        shop.shift(pile=pile, by=(0, 0, 1))
        shop.press(pile=pile, way="east")
        shop.bar(line="high")
        shop.unbar(line="high")
        number = shop.draft(pile=pile)
        shop.burn(block=1)
        self.same(shop.blocks(pile=pile), [0, 2])
        self.same(shop.where(block=2), 0)
        self.same(shop.cells(block=2), [(2, 0, 1)])
        self.same(shop.along(pile=pile, way="east", blocks=[0]), [0, 2])
        self.assertIn(shop.plan_good(number=number), (0, 1))
        self.same(shop.plan_pile(number=number), 0)
        self.assertEqual(len(shop.plan(number=number)), 2)


class Numbers(ShopCase):
    def test_each_kind_from_nought_on(self):
        shop = Workshop()
        self.same([shop.heap(), shop.heap(), shop.heap()], [0, 1, 2])
        self.same([shop.lay(1, [(0, 0, 0)]), shop.lay(0, [(0, 0, 0)]), shop.lay(1, [(1, 0, 0)])], [0, 1, 2])
        self.same([shop.peg(1, (0, 0, 0), "east", 2), shop.peg(1, (1, 0, 0), "west", 2)], [0, 1])
        self.same([shop.draft(2), shop.draft(1), shop.draft(2)], [0, 1, 2])
        self.same(shop.piles(), [0, 1, 2])
        self.same(shop.pegs(), [0, 1])
        self.same([shop.blocks(pile) for pile in (0, 1, 2)], [[1], [0, 2], []])
        self.same([shop.plan_pile(number) for number in (0, 1, 2)], [2, 1, 2])

    def test_a_number_is_not_given_again(self):
        shop = done(*ROW)
        shop.burn(4)
        self.same(shop.lay(0, [(9, 9, 9)]), 5)
        shop.burn(5)
        shop.unpeg(shop.peg(0, (0, 0, 0), "east", 2))
        self.same(shop.peg(0, (0, 0, 0), "east", 2), 1)
        shop.home(0, shop.pull(0, "up", [3]), "down")
        self.same(shop.heap(), 2)
        self.same(shop.pull(0, "up", [3]), 3)
        self.same(shop.saw(1, "long", 2), [6])

    def test_no_number_is_given_for_a_refused_deed(self):
        shop = done(*ROW)
        self.refused(Touch, "touch", shop.lay, 0, [(0, 0, 0)])
        self.refused(NoWood, "no wood", shop.peg, 0, (0, 0, 0), "down", 2)
        self.refused(Stopped, "stopped", shop.pull, 0, "east", [0])
        self.refused(NoPile, "no pile", shop.draft, 7)
        self.same([shop.lay(0, [(5, 5, 5)]), shop.peg(0, (0, 0, 0), "east", 2), shop.heap(), shop.draft(0)],
                  [5, 0, 1, 0])


class Lay(ShopCase):
    def test_done(self):
        shop = done()
        self.same(shop.lay(0, [(1, 1, 0), (0, 0, 0), (0, 1, 0)]), 0)
        self.same(shop.cells(0), [(0, 0, 0), (0, 1, 0), (1, 1, 0)])
        self.same(shop.where(0), 0)
        self.same(shop.stack(0), [(0, [(0, 0, 0), (0, 1, 0), (1, 1, 0)])])

    def test_piles_have_nothing_to_do_with_one_another(self):
        shop = done(("heap",), ("lay", 0, [(0, 0, 0)]), ("lay", 1, [(0, 0, 0)]), ("lay", 1, [(0, 0, 1)]))
        self.same(shop.stack(0), [(0, [(0, 0, 0)])])
        self.same(shop.stack(1), [(1, [(0, 0, 0)]), (2, [(0, 0, 1)])])

    def test_bounds_just_kept_and_just_broken(self):
        for way, vector in VECTORS.items():
            with self.subTest(way):
                kept = tuple(30 * number for number in vector)
                broken = tuple(31 * number for number in vector)
                self.same(done().lay(0, [kept]), 0)
                self.stays(done(), BadCell, "bad cell", "lay", 0, [broken])
                self.stays(done(), BadCell, "bad cell", "lay", 0, [broken, kept])
                self.stays(done(), BadCell, "bad cell", "lay", 0, [tuple(GREAT * number for number in vector)])
        self.same(done().lay(0, [(30, -30, 30)]), 0)

    def test_bad_cells(self):
        for cells in ([], [(0, 0, 0), (0, 0, 0)], [(0, 0, 0), (1, 0, 0), (0, 0, 0)], [(0, 0, 31)]):
            with self.subTest(cells):
                self.stays(done(), BadCell, "bad cell", "lay", 0, cells)
                self.stays(done(), BadCell, "bad cell", "lay", 5, cells)

    def test_loose(self):
        for cells in ([(0, 0, 0), (2, 0, 0)], [(0, 0, 0), (1, 1, 0)], [(0, 0, 0), (1, 1, 1)],
                      [(0, 0, 0), (0, 1, 0), (5, 0, 0)]):
            with self.subTest(cells):
                self.stays(done(), Loose, "loose", "lay", 0, cells)
                self.stays(done(), Loose, "loose", "lay", 3, cells)

    def test_no_pile(self):
        for pile in NO_NUMBERS:
            self.stays(done(), NoPile, "no pile", "lay", pile, [(0, 0, 0)])

    def test_touch_tells_the_least_cell(self):
        shop = done(("lay", 0, [(1, 0, 0), (2, 0, 0), (3, 0, 0)]), ("lay", 0, [(0, 5, 0)]))
        cells = [(x, 0, 0) for x in (4, 3, 2, 1, 0)]
        self.same(self.stays(shop, Touch, "touch", "lay", 0, cells).cell, (1, 0, 0))
        self.same(self.stays(shop, Touch, "touch", "lay", 0, [(0, 5, 0)]).cell, (0, 5, 0))

    def test_at_most_24_blocks(self):
        shop = done(*rods(24, 1))
        self.assertEqual(len(shop.blocks(0)), 24)
        self.stays(shop, TooMany, "too many", "lay", 0, [(9, 9, 9)])
        self.same(shop.lay(shop.heap(), [(9, 9, 9)]), 24)
        shop.burn(3)
        self.same(shop.lay(0, [(9, 9, 9)]), 25)

    def test_at_most_240_cells(self):
        shop = done(*rods(20, 11), ("lay", 0, [(x, 9, 9) for x in range(19)]))
        self.stays(shop, TooMany, "too many", "lay", 0, [(9, 20, 20), (9, 21, 20)])
        self.same(shop.lay(0, [(9, 20, 20)]), 21)
        self.stays(shop, TooMany, "too many", "lay", 0, [(9, 21, 20)])
        shop.carve(0, (0, 9, 9))
        self.same(shop.lay(0, [(9, 21, 20)]), 22)


class Burn(ShopCase):
    def test_done(self):
        shop = done(*ROW)
        self.same(shop.burn(1), None)
        self.same(shop.blocks(0), [0, 2, 3, 4])
        self.stays(shop, NoBlock, "no block", "cells", 1)
        self.stays(shop, NoBlock, "no block", "where", 1)
        self.stays(shop, NoBlock, "no block", "burn", 1)

    def test_refused(self):
        shop = done(*ROW, ("peg", 0, (1, 0, 0), "up", 2), ("peg", 0, (0, 0, 0), "east", 4))
        for number in NO_NUMBERS:
            self.stays(shop, NoBlock, "no block", "burn", number)
        self.same([self.stays(shop, Held, "held", "burn", number).by for number in (0, 1, 2, 3)], [1, 0, 1, 0])
        self.same(shop.burn(4), None)
        shop.unpeg(0)
        self.same(self.stays(shop, Held, "held", "burn", 1).by, 1)
        self.same(shop.burn(3), None)

    def test_a_peg_of_another_pile_holds_nothing(self):
        shop = done(*ROW, ("peg", 0, (0, 0, 0), "east", 2), ("heap",), ("lay", 1, [(0, 0, 0)]))
        self.same(shop.burn(5), None)


class Carve(ShopCase):
    def test_at_an_end(self):
        shop = done(("lay", 0, [(x, 0, 0) for x in range(4)]))
        self.same(shop.carve(0, (0, 0, 0)), [])
        self.same(shop.carve(0, (3, 0, 0)), [])
        self.same(shop.stack(0), [(0, [(1, 0, 0), (2, 0, 0)])])

    def test_into_several_pieces(self):
        star = [(0, 0, 0), *VECTORS.values()]
        shop = done(("lay", 0, [(9, 9, 9)]), ("lay", 0, star), ("lay", 0, [(8, 9, 9)]))
        self.same(shop.carve(0, (0, 0, 0)), [3, 4, 5, 6, 7])
        self.same(shop.stack(0), [(0, [(9, 9, 9)]), (1, [(-1, 0, 0)]), (2, [(8, 9, 9)]), (3, [(0, -1, 0)]),
                                  (4, [(0, 0, -1)]), (5, [(0, 0, 1)]), (6, [(0, 1, 0)]), (7, [(1, 0, 0)])])

    def test_pieces_of_several_cells(self):
        shop = done(("lay", 0, [(0, y, 0) for y in range(-3, 3)]))
        self.same(shop.carve(0, (0, -1, 0)), [1])
        self.same(shop.stack(0), [(0, [(0, -3, 0), (0, -2, 0)]), (1, [(0, 0, 0), (0, 1, 0), (0, 2, 0)])])

    def test_refused(self):
        shop = done(*ROW, ("heap",), ("lay", 1, [(5, 5, 5), (5, 5, 6)]))
        for pile in NO_NUMBERS:
            self.stays(shop, NoPile, "no pile", "carve", pile, (0, 0, 0))
        for pile, cell in ((0, (5, 5, 5)), (1, (0, 0, 0)), (0, (31, 0, 0)), (0, (GREAT, 0, -GREAT))):
            self.stays(shop, NoWood, "no wood", "carve", pile, cell)
        self.stays(shop, Last, "last", "carve", 0, (0, 0, 0))
        shop.peg(0, (1, 0, 0), "up", 2)
        shop.peg(0, (0, 0, 0), "east", 2)
        self.same(self.stays(shop, Held, "held", "carve", 0, (1, 0, 0)).by, 0)
        self.same(self.stays(shop, Held, "held", "carve", 0, (0, 0, 0)).by, 1)
        self.same(shop.carve(0, (2, 0, 0)), [])

    def test_a_peg_of_another_pile_holds_nothing(self):
        shop = done(*ROW, ("peg", 0, (0, 0, 0), "east", 2), ("heap",), ("lay", 1, [(0, 0, 0), (0, 1, 0)]))
        self.same(shop.carve(1, (0, 0, 0)), [])

    def test_too_many_pieces(self):
        shop = done(*rods(21, 1), ("lay", 0, [(9, 9, 9), *[(9 + x, 9 + y, 9 + z) for x, y, z in VECTORS.values()]]))
        self.stays(shop, TooMany, "too many", "carve", 0, (9, 9, 9))
        for at in (0, 1, 2):
            shop.burn(at)
        self.same(shop.carve(0, (9, 9, 9)), [22, 23, 24, 25, 26])
        self.assertEqual(len(shop.blocks(0)), 24)
        full = done(*rods(23, 1), ("lay", 0, [(9, 9, 9), (9, 9, 10), (9, 9, 11)]))
        self.stays(full, TooMany, "too many", "carve", 0, (9, 9, 10))
        self.same(full.carve(0, (9, 9, 9)), [])


class Plug(ShopCase):
    def test_done(self):
        shop = done(*ROW)
        self.same(shop.plug(4, (8, 9, 9)), None)
        self.same(shop.cells(4), [(8, 9, 9), (9, 9, 9)])
        self.same(shop.plug(1, (2, 0, 1)), None)
        self.same(shop.cells(1), [(1, 0, 0), (2, 0, 0), (2, 0, 1)])

    def test_bounds(self):
        for way, vector in VECTORS.items():
            near, kept, broken = [tuple(far * number for number in vector) for far in (29, 30, 31)]
            with self.subTest(way):
                shop = done(("lay", 0, [near]))
                self.stays(shop, BadCell, "bad cell", "plug", 0, broken)
                self.same(shop.plug(0, kept), None)
                self.stays(shop, BadCell, "bad cell", "plug", 0, broken)
                self.stays(shop, BadCell, "bad cell", "plug", 9, broken)

    def test_refused(self):
        shop = done(*ROW)
        for number in NO_NUMBERS:
            self.stays(shop, NoBlock, "no block", "plug", number, (0, 0, 1))
        for cell in ((1, 0, 0), (0, 0, 0), (1, 0, 1), (9, 9, 9), (2, 0, 0)):
            self.same(self.stays(shop, Touch, "touch", "plug", 1, cell).cell, cell)
        for cell in ((5, 5, 5), (0, 0, 1), (3, 1, 0), (1, 1, 1), (4, 0, 0)):
            self.stays(shop, Loose, "loose", "plug", 1, cell)

    def test_at_most_240_cells(self):
        shop = done(*rods(24, 9), ("plug", 0, (9, 0, 0)))
        for at in range(22):
            shop.plug(23, (9 + at, 8, 6))
        shop.plug(22, (9, 8, 4))
        self.assertEqual(sum(len(cells) for block, cells in shop.stack(0)), 240)
        self.stays(shop, TooMany, "too many", "plug", 0, (-1, 0, 0))
        shop.carve(0, (9, 0, 0))
        self.same(shop.plug(0, (-1, 0, 0)), None)


class Saw(ShopCase):
    def test_each_line(self):
        for line, at in zip(LINES, range(3)):
            cells = [tuple(number if k == at else 0 for k in range(3)) for number in range(-2, 3)]
            for number in (-1, 0, 1, 2):
                with self.subTest(line=line, at=number):
                    shop = done(("lay", 0, cells))
                    self.same(shop.saw(0, line, number), [1])
                    self.same(shop.stack(0), [(0, cells[:number + 2]), (1, cells[number + 2:])])
            for number in (-2, -3, 3, GREAT, -GREAT):
                self.stays(done(("lay", 0, cells)), NoCut, "no cut", "saw", 0, line, number)

    def test_into_several_pieces(self):
        # A comb: a back at y 0, and teeth at x 0, 2 and 4; cut off, the teeth are three blocks.
        comb = [(x, 0, 0) for x in range(5)] + [(x, y, 0) for x in (0, 2, 4) for y in (1, 2)]
        shop = done(("lay", 0, comb), ("lay", 0, [(9, 9, 9)]))
        self.same(shop.saw(0, "broad", 1), [2, 3, 4])
        self.same(shop.stack(0), [(0, [(x, 0, 0) for x in range(5)]), (1, [(9, 9, 9)]), (2, [(0, 1, 0), (0, 2, 0)]),
                                  (3, [(2, 1, 0), (2, 2, 0)]), (4, [(4, 1, 0), (4, 2, 0)])])
        # By the other side first: the least cell is of a tooth.
        shop = done(("lay", 0, [(x, -y, z) for x, y, z in comb]))
        self.same(shop.saw(0, "broad", 0), [1, 2, 3])
        self.same(shop.stack(0), [(0, [(0, -2, 0), (0, -1, 0)]), (1, [(x, 0, 0) for x in range(5)]),
                                  (2, [(2, -2, 0), (2, -1, 0)]), (3, [(4, -2, 0), (4, -1, 0)])])

    def test_refused(self):
        shop = done(*ROW)
        for line in NO_LINES:
            self.stays(shop, BadLine, "bad line", "saw", 1, line, 2)
            self.stays(shop, BadLine, "bad line", "saw", 9, line, 2)
        for number in NO_NUMBERS:
            self.stays(shop, NoBlock, "no block", "saw", number, "long", 2)
        self.stays(shop, NoCut, "no cut", "saw", 0, "long", 0)
        self.stays(shop, NoCut, "no cut", "saw", 1, "high", 0)

    def test_too_many_pieces(self):
        comb = [(x, 9, 9) for x in range(5)] + [(x, 10, 9) for x in (0, 2, 4)]
        shop = done(*rods(21, 1), ("lay", 0, comb))
        self.stays(shop, TooMany, "too many", "saw", 21, "broad", 10)
        self.same(shop.saw(21, "long", 2), [22])
        shop = done(*rods(20, 1), ("lay", 0, comb))
        self.same(shop.saw(20, "broad", 10), [21, 22, 23])
        self.stays(shop, TooMany, "too many", "saw", 20, "long", 1)


class Peg(ShopCase):
    def test_each_way_and_measure(self):
        for way, many in itertools.product(WAYS, range(2, 13)):
            cells = [tuple(at * number for number in VECTORS[way]) for at in range(many)]
            with self.subTest(way=way, many=many):
                shop = done(("lay", 0, [(0, 0, 0)]), ("lay", 0, cells[1:]))
                self.same(shop.peg(0, (0, 0, 0), way, many), 0)
                self.same(shop.peg_cells(0), cells)
                self.same(shop.pegs(), [0])
                self.same(shop.bodies(0), [[0, 1]])

    def test_refused(self):
        shop = done(*ROW)
        for way in NO_WAYS:
            self.stays(shop, BadWay, "bad way", "peg", 0, (0, 0, 0), way, 2)
            self.stays(shop, BadWay, "bad way", "peg", 9, (0, 0, 7), way, 1)
        for many in (-GREAT, -2, -1, 0, 1, 13, 14, GREAT):
            self.stays(shop, BadMeasure, "bad measure", "peg", 0, (0, 0, 0), "east", many)
            self.stays(shop, BadMeasure, "bad measure", "peg", 9, (0, 0, 0), "east", many)
        for pile in NO_NUMBERS:
            self.stays(shop, NoPile, "no pile", "peg", pile, (0, 0, 0), "east", 2)
        for cell, way, many in (((0, 0, 0), "west", 2), ((0, 0, 0), "east", 5), ((0, 0, 1), "east", 2),
                                ((0, 0, 0), "east", 12), ((31, 0, 0), "up", 2), ((GREAT, 0, 0), "up", 2)):
            self.stays(shop, NoWood, "no wood", "peg", 0, cell, way, many)
        self.stays(shop, Same, "same", "peg", 0, (1, 0, 0), "east", 2)
        self.stays(shop, Same, "same", "peg", 0, (2, 0, 0), "west", 2)

    def test_a_gap_is_no_wood(self):
        shop = done(("lay", 0, [(0, 0, 0)]), ("lay", 0, [(2, 0, 0)]))
        self.stays(shop, NoWood, "no wood", "peg", 0, (0, 0, 0), "east", 3)

    def test_pegs_may_share_cells_and_there_are_40(self):
        shop = done(*ROW, ("heap",), ("lay", 1, [(0, 0, 0)]), ("lay", 1, [(0, 0, 1)]))
        for at in range(20):
            self.same(shop.peg(0, (0, 0, 0), "east", 2), 2 * at)
            self.same(shop.peg(1, (0, 0, 0), "up", 2), 2 * at + 1)
        self.same(shop.pegs(), list(range(40)))
        self.stays(shop, TooMany, "too many", "peg", 0, (0, 0, 0), "east", 2)
        self.stays(shop, TooMany, "too many", "peg", 1, (0, 0, 0), "up", 2)
        shop.unpeg(7)
        self.same(shop.peg(0, (0, 0, 0), "east", 2), 40)
        self.stays(shop, TooMany, "too many", "peg", 0, (0, 0, 0), "east", 2)

    def test_unpeg(self):
        shop = done(*ROW, ("peg", 0, (0, 0, 0), "east", 2), ("peg", 0, (1, 0, 0), "up", 2))
        for number in (-1, 2, 40, GREAT):
            self.stays(shop, NoPeg, "no peg", "unpeg", number)
        self.same(shop.unpeg(0), None)
        self.same(shop.pegs(), [1])
        self.same(shop.bodies(0), [[0], [1, 3], [2], [4]])
        self.stays(shop, NoPeg, "no peg", "unpeg", 0)
        self.stays(shop, NoPeg, "no peg", "peg_cells", 0)


class Pull(ShopCase):
    def test_done(self):
        shop = done(*ROW)
        self.same(shop.pull(0, "up", [3, 1, 3]), 1)
        self.same(shop.piles(), [0, 1])
        self.same(shop.stack(0), [(0, [(0, 0, 0)]), (2, [(3, 0, 0)]), (4, [(9, 9, 9)])])
        self.same(shop.stack(1), [(1, [(1, 0, 0), (2, 0, 0)]), (3, [(1, 0, 1)])])
        self.same([shop.where(block) for block in range(5)], [0, 1, 0, 1, 0])
        self.same(shop.pull(1, "west", [1]), 2)
        self.same(shop.pull(0, "down", [0, 4]), 3)

    def test_refused(self):
        shop = done(*ROW, ("heap",), ("lay", 1, [(0, 0, 0)]), ("peg", 0, (1, 0, 0), "up", 2))
        for way in NO_WAYS:
            self.stays(shop, BadWay, "bad way", "pull", 0, way, [0])
            self.stays(shop, BadWay, "bad way", "pull", 9, way, [])
        for pile in NO_NUMBERS:
            self.stays(shop, NoPile, "no pile", "pull", pile, "up", [0])
            self.stays(shop, NoPile, "no pile", "pull", pile, "up", [])
        for number in (*NO_NUMBERS, 5):
            self.stays(shop, NoBlock, "no block", "pull", 0, "up", [0, number])
            self.stays(shop, NoBlock, "no block", "pull", 0, "up", [number, 0, 1, 2, 3, 4])
            self.stays(shop, NoBlock, "no block", "pull", 0, "up", [number, 1])
        self.stays(shop, Whole, "whole", "pull", 0, "up", [])
        self.stays(shop, Whole, "whole", "pull", 0, "up", [4, 3, 2, 1, 0])
        self.stays(shop, Whole, "whole", "pull", 0, "up", [4, 3, 2, 1, 0, 4])
        self.stays(shop, Whole, "whole", "pull", 1, "up", [5])
        for group in ([1], [3], [0, 1], [3, 4]):
            self.stays(shop, Torn, "torn", "pull", 0, "up", group)
        refusal = self.stays(shop, Stopped, "stopped", "pull", 0, "east", [1, 3])
        self.same((refusal.one, refusal.other), (1, 2))
        shop.bar("long")
        self.stays(shop, Barred, "barred", "pull", 0, "east", [1, 3])
        self.stays(shop, Barred, "barred", "pull", 0, "west", [0])
        self.same(shop.pull(0, "up", [1, 3]), 2)

    def test_whole_of_a_pile_without_blocks(self):
        self.stays(done(), Whole, "whole", "pull", 0, "up", [])
        self.stays(done(), NoBlock, "no block", "pull", 0, "up", [0])

    def test_stopped_tells_blocks_of_the_group_and_beside_it(self):
        shop = done(*ROW, ("peg", 0, (1, 0, 0), "up", 2), ("lay", 0, [(5, 0, 1)]))
        refusal = self.stays(shop, Stopped, "stopped", "pull", 0, "east", [1, 2, 3])
        self.same((refusal.one, refusal.other), (3, 5))
        refusal = self.stays(shop, Stopped, "stopped", "pull", 0, "east", [0, 3, 1, 4])
        self.assertIn((refusal.one, refusal.other), [(0, 2), (1, 2), (3, 5)])

    def test_no_bound_for_piles(self):
        shop = done(*rods(24, 1))
        for block in range(23):
            self.same(shop.pull(0, "up" if block % 5 == 4 else "down", [block]), block + 1)
        self.assertEqual(len(shop.piles()), 24)


class Home(ShopCase):
    def two(self, *more):
        """Pile 0 with a row of three to the east, its middle pulled out as pile 1."""
        return done(*ROW[:3], ("pull", 0, "up", [1]), *more)

    def test_done(self):
        for way in ("up", "down", "north", "south"):
            with self.subTest(way):
                shop = self.two()
                self.same(shop.home(0, 1, way), None)
                self.same(shop.piles(), [0])
                self.same(shop.stack(0), done(*ROW[:3]).stack(0))
                self.stays(shop, NoPile, "no pile", "blocks", 1)
                self.same(shop.heap(), 2)

    def test_piles_without_blocks(self):
        shop = done(*ROW, ("heap",), ("heap",))
        self.same(shop.home(1, 2, "east"), None)
        self.same(shop.piles(), [0, 1])
        self.same(shop.home(0, 1, "west"), None)
        self.same(shop.piles(), [0])
        self.same(shop.heap(), 3)
        before = shop.stack(0)
        self.same(shop.home(3, 0, "north"), None)
        self.same(shop.piles(), [3])
        self.same(shop.stack(3), before)
        self.same(shop.where(4), 3)
        shop.bar("high")
        shop.heap()
        self.stays(shop, Barred, "barred", "home", 3, 4, "up")
        self.stays(shop, Barred, "barred", "home", 4, 3, "down")

    def test_refused(self):
        shop = self.two(("heap",), ("lay", 2, [(0, 0, 0)]), ("lay", 2, [(3, 0, 0), (3, 1, 0)]))
        for way in NO_WAYS:
            self.stays(shop, BadWay, "bad way", "home", 0, 1, way)
            self.stays(shop, BadWay, "bad way", "home", 9, 9, way)
        for number in NO_NUMBERS:
            self.stays(shop, NoPile, "no pile", "home", 0, number, "up")
            self.stays(shop, NoPile, "no pile", "home", number, 1, "up")
            self.stays(shop, NoPile, "no pile", "home", number, number, "up")
        self.stays(shop, Same, "same", "home", 0, 0, "up")
        self.same(self.stays(shop, Touch, "touch", "home", 0, 2, "up").cell, (0, 0, 0))
        shop.burn(3)
        self.same(self.stays(shop, Touch, "touch", "home", 2, 0, "up").cell, (3, 0, 0))
        refusal = self.stays(shop, Stopped, "stopped", "home", 0, 1, "east")
        self.same((refusal.one, refusal.other), (1, 0))
        refusal = self.stays(shop, Stopped, "stopped", "home", 0, 1, "west")
        self.same((refusal.one, refusal.other), (1, 2))
        refusal = self.stays(shop, Stopped, "stopped", "home", 1, 0, "west")
        self.same((refusal.one, refusal.other), (0, 1))
        shop.bar("long")
        self.stays(shop, Barred, "barred", "home", 0, 1, "east")
        self.same(self.stays(shop, Touch, "touch", "home", 0, 2, "east").cell, (3, 0, 0))

    def test_too_many_blocks(self):
        for more, fits in ((12, True), (13, False)):
            shop = done(*rods(12, 1), ("heap",), *rods(more, 1, 1), ("shift", 1, (0, 20, 0)))
            if fits:
                self.same(shop.home(0, 1, "south"), None)
                self.assertEqual(len(shop.blocks(0)), 24)
            else:
                self.stays(shop, TooMany, "too many", "home", 0, 1, "south")
                self.stays(shop, TooMany, "too many", "home", 1, 0, "north")

    def test_too_many_cells(self):
        for more, fits in ((12, True), (13, False)):
            shop = done(*rods(12, 10), ("heap",), *rods(11, 10, 1), ("lay", 1, [(x, 9, 9) for x in range(more - 2)]),
                        ("shift", 1, (0, 20, 0)))
            if fits:
                self.same(shop.home(0, 1, "south"), None)
                self.assertEqual(sum(len(cells) for block, cells in shop.stack(0)), 240)
            else:
                self.stays(shop, TooMany, "too many", "home", 0, 1, "south")


class Turn(ShopCase):
    def test_each_turn(self):
        cells = [(30, 0, 0), (30, 1, 0), (30, 1, 1)]
        for turn in TURNS:
            with self.subTest(turn):
                shop = done(("lay", 0, cells), ("heap",), ("lay", 1, cells))
                self.same(shop.turn(0, turn), None)
                self.same(shop.cells(0), sorted(led_vector(cell, turn) for cell in cells))
                self.same(shop.cells(1), cells)

    def test_refused(self):
        shop = done(*ROW)
        for turn in NO_TURNS:
            self.stays(shop, BadTurn, "bad turn", "turn", 0, turn)
            self.stays(shop, BadTurn, "bad turn", "turn", 9, turn)
        for pile in NO_NUMBERS:
            self.stays(shop, NoPile, "no pile", "turn", pile, STRAIGHT)

    def test_a_pile_without_blocks(self):
        self.same(done().turn(0, TURNS[0]), None)


class Shift(ShopCase):
    def test_done(self):
        shop = done(*ROW, ("heap",), ("lay", 1, [(0, 0, 0)]))
        self.same(shop.shift(0, (1, -2, 3)), None)
        self.same(shop.stack(0), [(0, [(1, -2, 3)]), (1, [(2, -2, 3), (3, -2, 3)]), (2, [(4, -2, 3)]),
                                  (3, [(2, -2, 4)]), (4, [(10, 7, 12)])])
        self.same(shop.stack(1), [(5, [(0, 0, 0)])])

    def test_bounds(self):
        for at, sign in itertools.product(range(3), (1, -1)):
            kept, broken = [tuple(sign * far if k == at else 0 for k in range(3)) for far in (29, 30)]
            with self.subTest(at=at, sign=sign):
                shop = done(("lay", 0, [(sign, sign, sign), (sign, 0, sign)]))
                self.stays(shop, BadCell, "bad cell", "shift", 0, broken)
                self.stays(shop, BadCell, "bad cell", "shift", 0, tuple(GREAT * number for number in broken))
                self.same(shop.shift(0, kept), None)
                self.same(shop.shift(0, tuple(-number for number in kept)), None)
                self.same(shop.cells(0), sorted([(sign, sign, sign), (sign, 0, sign)]))

    def test_refused(self):
        for pile in NO_NUMBERS:
            self.stays(done(*ROW), NoPile, "no pile", "shift", pile, (0, 0, 0))
            self.stays(done(*ROW), NoPile, "no pile", "shift", pile, (99, 0, 0))

    def test_a_pile_without_blocks_is_shifted_however_far(self):
        self.same(done().shift(0, (GREAT, 0, -GREAT)), None)


class Press(ShopCase):
    def test_done(self):
        shop = done(("lay", 0, [(0, 0, 0)]), ("lay", 0, [(3, 0, 0)]), ("lay", 0, [(5, 5, 5)]))
        self.same(shop.press(0, "east"), None)
        self.same(shop.stack(0), [(0, [(4, 0, 0)]), (1, [(5, 0, 0)]), (2, [(5, 5, 5)])])
        self.same(shop.press(0, "down"), None)
        self.same(shop.stack(0), [(0, [(4, 0, 0)]), (1, [(5, 0, 0)]), (2, [(5, 5, 0)])])

    def test_bodies_move_as_one(self):
        shop = done(*ROW, ("peg", 0, (1, 0, 0), "up", 2), ("peg", 0, (2, 0, 0), "east", 2),
                    ("lay", 0, [(x, 0, 1) for x in range(3, 9)]))
        self.same(shop.bodies(0), [[0], [1, 2, 3], [4], [5]])
        self.same(shop.press(0, "east"), None)
        # 5 has one step to the wall and stops 3, and with it 1, 2 and all behind them.
        self.same(shop.stack(0), [(0, [(2, 0, 0)]), (1, [(3, 0, 0), (4, 0, 0)]), (2, [(5, 0, 0)]), (3, [(3, 0, 1)]),
                                  (4, [(9, 9, 9)]), (5, [(x, 0, 1) for x in range(4, 10)])])
        self.same(shop.peg_cells(0), [(3, 0, 0), (3, 0, 1)])
        self.same(shop.peg_cells(1), [(4, 0, 0), (5, 0, 0)])

    def test_barred_lines_do_not_matter(self):
        shop = done(("lay", 0, [(0, 0, 0)]), ("lay", 0, [(3, 3, 0)]), ("bar", "long"))
        self.same(shop.press(0, "east"), None)
        self.same(shop.cells(0), [(3, 0, 0)])

    def test_refused(self):
        shop = done(*ROW)
        for way in NO_WAYS:
            self.stays(shop, BadWay, "bad way", "press", 0, way)
            self.stays(shop, BadWay, "bad way", "press", 9, way)
        for pile, way in itertools.product(NO_NUMBERS, WAYS):
            self.stays(shop, NoPile, "no pile", "press", pile, way)

    def test_a_pile_without_blocks(self):
        for way in WAYS:
            self.same(done().press(0, way), None)


class Bars(ShopCase):
    def test_in_the_order_of_the_lines(self):
        for lines in itertools.permutations(LINES):
            shop = done()
            for at, line in enumerate(lines):
                self.stays(shop, NotBarred, "not barred", "unbar", line)
                self.same(shop.bar(line), None)
                self.stays(shop, Barred, "barred", "bar", line)
                self.same(shop.barred(), [one for one in LINES if one in lines[:at + 1]])
            for at, line in enumerate(lines):
                self.same(shop.unbar(line), None)
                self.stays(shop, NotBarred, "not barred", "unbar", line)
                self.same(shop.barred(), [one for one in LINES if one in lines[at + 1:]])

    def test_refused(self):
        for text in NO_LINES:
            self.stays(done(), BadLine, "bad line", "bar", text)
            self.stays(done(), BadLine, "bad line", "unbar", text)


class Limit(ShopCase):
    def test_200_deeds(self):
        shop = Workshop()
        for at in range(200):
            self.same(shop.heap(), at)
            if at < 198:
                self.refused(NoPile, "no pile", shop.draft, 999)
        self.stays(shop, TooMany, "too many", "heap")
        self.stays(shop, TooMany, "too many", "lay", 0, [(0, 0, 0)])
        self.stays(shop, TooMany, "too many", "bar", "long")
        self.stays(shop, BadLine, "bad line", "bar", "far")
        self.stays(shop.twin(), TooMany, "too many", "heap")
        self.assertEqual(len(shop.journal()), 200)


class Bodies(ShopCase):
    def test_pegs_that_share_a_block(self):
        shop = done(*ROW, ("peg", 0, (0, 0, 0), "east", 2), ("peg", 0, (1, 0, 1), "down", 2))
        self.same(shop.bodies(0), [[0, 1, 3], [2], [4]])
        self.same(shop.body_stack(0), [(0, [(0, 0, 0), (1, 0, 0), (1, 0, 1), (2, 0, 0)]), (2, [(3, 0, 0)]),
                                       (4, [(9, 9, 9)])])
        shop.peg(0, (3, 0, 0), "west", 2)
        self.same(shop.bodies(0), [[0, 1, 2, 3], [4]])

    def test_bodies_under_their_least_numbers(self):
        shop = done(("lay", 0, [(0, 0, 0)]), ("lay", 0, [(5, 0, 0)]), ("lay", 0, [(0, 5, 0)]), ("lay", 0, [(5, 1, 0)]),
                    ("lay", 0, [(0, 1, 0)]), ("peg", 0, (5, 0, 0), "north", 2), ("peg", 0, (0, 1, 0), "south", 2))
        self.same(shop.bodies(0), [[0, 4], [1, 3], [2]])
        self.same(shop.body_stack(0), [(0, [(0, 0, 0), (0, 1, 0)]), (1, [(5, 0, 0), (5, 1, 0)]), (2, [(0, 5, 0)])])

    def test_a_peg_through_three_blocks(self):
        shop = done(*ROW, ("peg", 0, (3, 0, 0), "west", 4))
        self.same(shop.bodies(0), [[0, 1, 2], [3], [4]])

    def test_pegs_of_another_pile(self):
        shop = done(*ROW, ("heap",), *[("lay", 1, cells) for name, pile, cells in ROW],
                    ("peg", 1, (0, 0, 0), "east", 4))
        self.same(shop.bodies(0), [[0], [1], [2], [3], [4]])
        self.same(shop.bodies(1), [[5, 6, 7], [8], [9]])

    def test_knots_core_and_along_by_all_blocks(self):
        # 1 clasps 0 to the east; pegged to 2, it is clasped together with 2; 3 lies ahead of 2 to the north.
        shop = done(("lay", 0, [(0, 0, 0)]), ("lay", 0, [(-1, 0, 0), (-1, 1, 0), (0, 1, 0), (1, 1, 0), (1, 0, 0)]),
                    ("lay", 0, [(0, 2, 0)]), ("lay", 0, [(0, 9, 0)]), ("peg", 0, (0, 1, 0), "north", 2))
        self.same(shop.bodies(0), [[0], [1, 2], [3]])
        self.same(shop.knots(0), [[0], [1, 2], [3]])
        self.same(shop.core(0), [])
        self.same(shop.along(0, "north", [2]), [1, 2, 3])
        self.same(shop.along(0, "north", [0, 0]), [0, 1, 2, 3])
        self.same(shop.along(0, "east", [0]), [0, 1, 2])
        self.same(shop.along(0, "up", [1]), [1, 2])
        self.same(shop.along(0, "up", []), [])
        shop.bar("high")
        shop.bar("broad")
        self.same(shop.knots(0), [[0, 1, 2], [3]])
        self.same(shop.core(0), [0, 1, 2])
        shop.bar("long")
        self.same(shop.knots(0), [[0, 1, 2, 3]])
        self.same(shop.core(0), [0, 1, 2, 3])
        self.same(shop.along(0, "up", [1]), [1, 2])

    def test_of_a_pile_without_blocks(self):
        for question in ("blocks", "stack", "bodies", "body_stack", "knots", "core"):
            self.same(getattr(done(), question)(0), [])


class Pegged(ShopCase):
    """What a peg goes through goes with the cells."""

    def test_turned_and_shifted_in_order(self):
        for turn in TURNS:
            with self.subTest(turn):
                shop = done(*ROW, ("peg", 0, (3, 0, 0), "west", 4))
                shop.turn(0, turn)
                wanted = [led_vector((x, 0, 0), turn) for x in (3, 2, 1, 0)]
                self.same(shop.peg_cells(0), wanted)
                shop.shift(0, (1, 2, -3))
                self.same(shop.peg_cells(0), [(x + 1, y + 2, z - 3) for x, y, z in wanted])
                self.same(shop.bodies(0), [[0, 1, 2], [3], [4]])

    def test_pulled_and_brought_home(self):
        shop = done(*ROW, ("peg", 0, (1, 0, 1), "down", 2), ("peg", 0, (3, 0, 0), "west", 2), ("lay", 0, [(9, 9, 8)]),
                    ("peg", 0, (9, 9, 9), "down", 2))
        before = [shop.peg_cells(number) for number in shop.pegs()]
        self.same(shop.pull(0, "up", [1, 2, 3]), 1)
        self.same(shop.bodies(0), [[0], [4, 5]])
        self.same(shop.bodies(1), [[1, 2, 3]])
        shop.shift(1, (0, 0, 5))
        self.same([shop.peg_cells(number) for number in shop.pegs()],
                  [[(1, 0, 6), (1, 0, 5)], [(3, 0, 5), (2, 0, 5)], before[2]])
        shop.shift(0, (0, 1, 0))
        self.same(shop.peg_cells(0), [(1, 0, 6), (1, 0, 5)])
        shop.shift(0, (0, -1, 0))
        shop.shift(1, (0, 0, -5))
        self.same(shop.home(0, 1, "down"), None)
        self.same([shop.peg_cells(number) for number in shop.pegs()], before)
        self.same(shop.bodies(0), [[0], [1, 2, 3], [4, 5]])
        shop.shift(0, (1, 1, 1))
        self.same(shop.peg_cells(0), [(2, 1, 2), (2, 1, 1)])
        self.same(self.stays(shop, Held, "held", "burn", 2).by, 1)

    def test_a_saw_across_a_peg(self):
        shop = done(("lay", 0, [(x, 0, 0) for x in range(4)]), ("lay", 0, [(4, 0, 0)]),
                    ("peg", 0, (1, 0, 0), "east", 4))
        self.same(shop.saw(0, "long", 2), [2])
        self.same(shop.bodies(0), [[0, 1, 2]])
        self.same(shop.peg_cells(0), [(1, 0, 0), (2, 0, 0), (3, 0, 0), (4, 0, 0)])
        # Beside the peg.
        self.same(shop.saw(0, "long", 1), [3])
        self.same(shop.bodies(0), [[0], [1, 2, 3]])
        self.same(shop.burn(0), None)
        self.same(self.stays(shop, Held, "held", "carve", 0, (1, 0, 0)).by, 0)
        self.same(self.stays(shop, Held, "held", "burn", 2).by, 0)
        self.stays(shop, Torn, "torn", "pull", 0, "up", [2])

    def test_a_plugged_cell_is_not_of_the_peg(self):
        shop = done(*ROW, ("peg", 0, (0, 0, 0), "east", 2), ("plug", 0, (-1, 0, 0)))
        self.same(shop.peg_cells(0), [(0, 0, 0), (1, 0, 0)])
        self.same(shop.carve(0, (-1, 0, 0)), [])


class KeptPlans(ShopCase):
    def test_a_plan_of_all_blocks(self):
        shop = done(*ROW, ("peg", 0, (1, 0, 0), "up", 2))
        self.same(shop.draft(0), 0)
        told = shop.plan(0)
        self.assertEqual(len(told), 3)
        self.assertEqual(len(shop.knots(0)), 4)
        for way, group in told:
            self.assertIn(way, WAYS)
            self.assertEqual(1 in group, 3 in group)
        self.same(shop.plan_pile(0), 0)
        self.same(shop.plan_good(0), None)

    def test_by_the_lines_that_are_not_barred(self):
        for line in LINES:
            shop = done(*ROW, ("bar", line), ("draft", 0))
            self.same([way for way, group in shop.plan(0) if place_on((1, 2, 4), way) in self.places(line)], [])
            self.same(shop.plan_good(0), None)
        shop = done(*ROW, *[("bar", line) for line in LINES], ("draft", 0))
        self.same(shop.plan(0), [])
        self.same(shop.plan_good(0), None)

    def places(self, line):
        number = 1 << LINES.index(line)
        return [number, -number]

    def test_good_up_to_the_first_pull_of_a_barred_line(self):
        shop = done(*ROW, ("draft", 0))
        for line in LINES:
            wanted = [at for at, (way, group) in enumerate(shop.plan(0))
                      if place_on((1, 2, 4), way) in self.places(line)]
            shop.bar(line)
            self.same(shop.plan_good(0), wanted[0] if wanted else None)
            shop.unbar(line)
            self.same(shop.plan_good(0), None)

    def test_good_up_to_a_block_that_is_gone(self):
        for block in range(5):
            shop = done(*ROW, ("draft", 0))
            firsts = [at for at, (way, group) in enumerate(shop.plan(0)) if block in group]
            shop.burn(block)
            if firsts:
                self.same(shop.plan_good(0), firsts[0])
            shop = done(*ROW, ("draft", 0), ("pull", 0, "up", [4] if block == 4 else [3] if block == 3 else [0]))
            self.assertIsNotNone(shop.plan_good(0))

    def test_good_up_to_a_body_in_part(self):
        shop = done(("lay", 0, [(0, 0, 0)]), ("lay", 0, [(1, 0, 0)]), ("lay", 0, [(2, 0, 0)]), ("draft", 0))
        for peg, (cell, pair) in enumerate((((0, 0, 0), {0, 1}), ((1, 0, 0), {1, 2}))):
            shop.peg(0, cell, "east", 2)
            torn = [at for at, (way, group) in enumerate(shop.plan(0)) if len(pair & set(group)) == 1]
            self.same(shop.plan_good(0), torn[0])
            shop.unpeg(peg)
            self.same(shop.plan_good(0), None)

    def test_good_up_to_what_is_no_pull_any_more(self):
        shop = done(("lay", 0, [(0, 0, 0)]), ("lay", 0, [(1, 0, 0)]), ("bar", "broad"), ("bar", "high"), ("draft", 0))
        (way, group), = shop.plan(0)
        # A third block ahead of the group on its way stops it, one behind it does not.
        for other in (way, BACKS[way]):
            twin = shop.twin()
            far = tuple(9 * number for number in VECTORS[other])
            twin.lay(0, [far])
            self.same(twin.plan_good(0), 0 if other == way else None)
        # When only the group is left, there is nothing from which it is parted.
        rest = 1 - group[0]
        shop.burn(rest)
        self.same(shop.plan_good(0), 0)

    def test_a_pile_that_is_gone(self):
        shop = done(*ROW, ("draft", 0), ("heap",), ("home", 1, 0, "east"), ("draft", 1))
        self.same(shop.plan_good(0), 0)
        self.same(shop.plan_pile(0), 0)
        self.same(shop.plan_good(1), None)
        self.assertEqual(len(shop.plan(0)), 4)

    def test_without_pulls(self):
        shop = done(("draft", 0), ("lay", 0, [(0, 0, 0)]), ("draft", 0), ("heap",), ("draft", 1), ("home", 1, 0, "up"))
        for number in (0, 1, 2):
            self.same(shop.plan(number), [])
            self.same(shop.plan_good(number), None)
        self.same([shop.plan_pile(number) for number in (0, 1, 2)], [0, 0, 1])

    def test_a_plan_stays_the_same(self):
        shop = done(*ROW, ("draft", 0))
        before = shop.plan(0)
        for name, *handed in (("burn", 2), ("turn", 0, TURNS[3]), ("bar", "long"), ("pull", 0, "up", [3]),
                              ("lay", 0, [(0, 0, 9)]), ("heap",), ("home", 2, 0, "up"), ("draft", 2)):
            getattr(shop, name)(*handed)
            self.same(shop.plan(0), before)
            self.same(shop.plan_pile(0), 0)

    def test_refused(self):
        shop = done(*ROW, ("draft", 0))
        for pile in NO_NUMBERS:
            self.stays(shop, NoPile, "no pile", "draft", pile)
        for number in (-1, 1, 7, GREAT):
            for question in ("plan", "plan_pile", "plan_good"):
                self.stays(shop, NoPlan, "no plan", question, number)


class Questions(ShopCase):
    def test_refused(self):
        shop = done(*ROW, ("heap",), ("lay", 1, [(0, 0, 0)]), ("peg", 0, (0, 0, 0), "east", 2))
        for number in NO_NUMBERS:
            for question in ("blocks", "stack", "bodies", "body_stack", "knots", "core"):
                self.stays(shop, NoPile, "no pile", question, number)
            for question in ("cells", "where"):
                self.stays(shop, NoBlock, "no block", question, number)
            self.stays(shop, NoPeg, "no peg", "peg_cells", number)

    def test_along_in_the_order_of_its_refusals(self):
        shop = done(*ROW, ("heap",), ("lay", 1, [(0, 0, 0)]))
        for way in NO_WAYS:
            self.stays(shop, BadWay, "bad way", "along", 0, way, [0])
            self.stays(shop, BadWay, "bad way", "along", 9, way, [99])
        for pile in NO_NUMBERS:
            self.stays(shop, NoPile, "no pile", "along", pile, "up", [0])
            self.stays(shop, NoPile, "no pile", "along", pile, "up", [99])
        for number in (*NO_NUMBERS, 5):
            self.stays(shop, NoBlock, "no block", "along", 0, "up", [number])
            self.stays(shop, NoBlock, "no block", "along", 0, "up", [0, number])
        self.stays(shop, NoBlock, "no block", "along", 1, "up", [0])


class Twins(ShopCase):
    def test_each_goes_its_own_way(self):
        deeds = [*ROW, ("peg", 0, (1, 0, 0), "up", 2), ("draft", 0), ("bar", "long"), ("heap",)]
        changes = [("heap",), ("lay", 0, [(5, 5, 5)]), ("burn", 4), ("carve", 0, (2, 0, 0)), ("plug", 4, (9, 9, 8)),
                   ("saw", 1, "long", 2), ("peg", 0, (2, 0, 0), "east", 2), ("unpeg", 0), ("pull", 0, "up", [4]),
                   ("home", 0, 1, "up"), ("turn", 0, TURNS[0]), ("shift", 0, (0, 0, 1)), ("press", 0, "down"),
                   ("bar", "high"), ("unbar", "long"), ("draft", 0)]
        for name, *handed in changes:
            with self.subTest(name):
                shop = done(*deeds)
                twin = shop.twin()
                self.assertIs(type(twin), Workshop)
                before = answers(shop)
                self.same(answers(twin), before)
                told = getattr(twin, name)(*handed)
                self.same(answers(shop), before)
                after = answers(twin)
                self.assertNotEqual(before, after)
                # The numbers to come are the same, too.
                self.same(getattr(shop, name)(*copy.deepcopy(handed)), told)
                self.same(answers(shop), after)

    def test_numbers_to_come(self):
        shop = done(*ROW, ("burn", 4), ("heap",), ("home", 0, 1, "up"))
        self.same([shop.twin().heap(), shop.heap()], [2, 2])
        self.same([shop.twin().lay(0, [(9, 9, 9)]), shop.lay(0, [(9, 9, 9)])], [5, 5])


class Journal(ShopCase):
    def test_each_deed_as_a_tuple(self):
        deeds = [deed for deed, told, text in STORY]
        self.assertEqual({name for name, *handed in deeds}, set(NAMES))
        shop = Workshop()
        for at, (name, *handed) in enumerate(deeds):
            getattr(shop, name)(*handed)
            self.same(shop.journal(), deeds[:at + 1])

    def test_refused_deeds_are_not_in_it(self):
        shop = done(*ROW)
        before = shop.journal()
        for name, handed in (("lay", (0, [])), ("burn", (9,)), ("pull", (0, "east", [0])), ("bar", ("far",))):
            with self.assertRaises(ValueError):
                getattr(shop, name)(*handed)
            self.same(shop.journal(), before)


class Kept(ShopCase):
    def test_lists_that_were_handed_in(self):
        shop = done()
        cells = [(1, 0, 0), (0, 0, 0)]
        shop.lay(0, cells)
        spoil(cells)
        shop.lay(0, [(0, 5, 0)])
        group = [1]
        shop.pull(0, "up", group)
        spoil(group)
        blocks = [0]
        shop.along(0, "up", blocks)
        self.same(blocks, [0])
        self.same(shop.cells(0), [(0, 0, 0), (1, 0, 0)])
        self.same(shop.journal()[1:], [("lay", 0, [(1, 0, 0), (0, 0, 0)]), ("lay", 0, [(0, 5, 0)]),
                                       ("pull", 0, "up", [1])])

    def test_lists_that_were_told(self):
        shop = done(*ROW, ("peg", 0, (1, 0, 0), "up", 2), ("draft", 0), ("bar", "long"), ("bar", "broad"),
                    ("pull", 0, "up", [1, 3]))
        twin = shop.twin()
        before = copy.deepcopy(answers(shop))
        for told in answers(shop).values():
            spoil(told)
        self.same(answers(shop), before)
        spoil(shop.saw(1, "long", 2))
        self.same(answers(twin), before)
        for told in answers(twin).values():
            spoil(told)
        self.same(answers(twin), before)

    def test_told_numbers_of_new_blocks(self):
        shop = done(("lay", 0, [(x, 0, 0) for x in range(5)]))
        spoil(shop.carve(0, (2, 0, 0)))
        spoil(shop.saw(0, "long", 1))
        self.same(shop.blocks(0), [0, 1, 2])

    def test_two_workshops(self):
        one, other = Workshop(), Workshop()
        one.heap()
        one.lay(0, [(0, 0, 0)])
        one.bar("long")
        self.same(answers(other), answers(Workshop()))
        self.same(other.heap(), 0)


if __name__ == "__main__":
    unittest.main()
