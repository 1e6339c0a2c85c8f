"""Promise [4], with [1] and [2] as far as they speak of turns."""

import itertools
import unittest

from gripwood.errors import BadTurn
from gripwood.turning import is_turn, joined, turn_back, turned, turned_cells, turns
from tests.helper import GREAT, NO_WAYS, TOLD_TURNS, VECTORS, WoodCase, all_turns, at_once, led_vector

STAY = ("east", "north", "up")
CELLS = [(0, 0, 0), (1, 0, 0), (0, 1, 0), (0, 0, 1), (2, 3, 5), (-2, 3, -5), (GREAT, -GREAT, GREAT - 1)]
NO_TURNS = [
    ("west", "north", "up"), ("east", "south", "up"), ("east", "north", "down"), ("north", "east", "up"),
    ("west", "south", "down"), ("east", "east", "up"), ("east", "west", "up"), ("up", "up", "up"),
    ("", "", ""), ("east", "north", ""), ("", "north", "up"), ("long", "broad", "high"),
    ("left", "right", "up"), ("East", "North", "Up"), ("east ", "north", "up"), ("east,north", "up", ""),
]


class Turns(WoodCase):
    def test_all_that_come_of_the_told_ones_sorted(self):
        self.same(turns(), all_turns())

    def test_there_are_24(self):
        self.assertEqual(len(turns()), 24)
        self.assertEqual(len(set(turns())), 24)

    def test_each_way_stands_at_each_place_four_times(self):
        for at in range(3):
            for way in VECTORS:
                with self.subTest((at, way)):
                    self.assertEqual([turn[at] for turn in turns()].count(way), 4)

    def test_some_by_name(self):
        for turn in [*TOLD_TURNS, STAY, ("west", "south", "up"), ("down", "east", "south")]:
            with self.subTest(turn):
                self.assertIn(turn, turns())

    def test_is_turn_of_each_triple_of_ways(self):
        wanted = all_turns()
        for triple in itertools.product(VECTORS, repeat=3):
            with self.subTest(triple):
                self.same(is_turn(triple), triple in wanted)

    def test_is_turn_of_no_mirror_and_no_other_texts(self):
        for triple in NO_TURNS:
            with self.subTest(triple):
                self.same(is_turn(triple), False)

    def test_is_turn_with_one_text_that_is_no_way(self):
        for text in NO_WAYS:
            for at in range(3):
                triple = STAY[:at] + (text,) + STAY[at + 1:]
                with self.subTest(triple):
                    self.same(is_turn(triple), False)


class Turned(WoodCase):
    def test_by_the_told_turns(self):
        self.same(turned((2, 3, 5), ("north", "west", "up")), (-3, 2, 5))
        self.same(turned((2, 3, 5), ("north", "up", "east")), (5, 2, 3))

    def test_the_turn_that_leads_nowhere_else(self):
        for cell in CELLS:
            with self.subTest(cell):
                self.same(turned(cell, STAY), cell)

    def test_by_each_turn(self):
        for turn in all_turns():
            for cell in CELLS:
                with self.subTest((turn, cell)), at_once():
                    self.same(turned(cell, turn), led_vector(cell, turn))

    def test_many_cells_keep_their_order(self):
        for turn in all_turns():
            with self.subTest(turn):
                self.same(turned_cells(CELLS, turn), [led_vector(cell, turn) for cell in CELLS])
        self.same(turned_cells([], STAY), [])


class Joined(WoodCase):
    def test_first_one_and_then_the_other(self):
        one, other = TOLD_TURNS
        self.same(joined(one, other), ("up", "south", "east"))
        self.same(joined(other, one), ("west", "up", "north"))

    def test_cells_are_turned_one_behind_the_other(self):
        for one in all_turns():
            for other in all_turns():
                with self.subTest((one, other)):
                    both = joined(one, other)
                    self.assertIn(both, all_turns())
                    self.same(turned((2, -3, 5), both), turned(turned((2, -3, 5), one), other))

    def test_turn_back_by_name(self):
        self.same(turn_back(("north", "west", "up")), ("south", "east", "up"))
        self.same(turn_back(("north", "up", "east")), ("up", "east", "north"))
        self.same(turn_back(STAY), STAY)

    def test_turn_back_leads_back(self):
        for turn in all_turns():
            with self.subTest(turn):
                self.same(joined(turn, turn_back(turn)), STAY)
                self.same(joined(turn_back(turn), turn), STAY)
                self.same(turned(turned((2, -3, GREAT), turn), turn_back(turn)), (2, -3, GREAT))


class Refusals(WoodCase):
    def test_no_turn(self):
        for triple in NO_TURNS:
            with self.subTest(triple):
                self.refused(BadTurn, "bad turn", turned, (1, 2, 3), triple)
                self.refused(BadTurn, "bad turn", turned, (0, 0, 0), triple)
                self.refused(BadTurn, "bad turn", turn_back, triple)
                self.refused(BadTurn, "bad turn", turned_cells, [], triple)

    def test_no_turn_at_either_place_of_joined(self):
        for triple in NO_TURNS:
            for turn in [STAY, *TOLD_TURNS]:
                with self.subTest((triple, turn)):
                    self.refused(BadTurn, "bad turn", joined, triple, turn)
                    self.refused(BadTurn, "bad turn", joined, turn, triple)
            self.refused(BadTurn, "bad turn", joined, triple, triple)


class Kept(WoodCase):
    def test_a_changed_list_of_turns_changes_nothing(self):
        told = turns()
        told[:] = [("west", "north", "up")]
        self.same(turns(), all_turns())
        self.same(is_turn(("west", "north", "up")), False)
        self.same(is_turn(STAY), True)

    def test_handed_cells_stay_as_they_were(self):
        handed = list(CELLS)
        told = turned_cells(handed, STAY)
        self.same(handed, CELLS)
        told.clear()
        self.same(handed, CELLS)


if __name__ == "__main__":
    unittest.main()
