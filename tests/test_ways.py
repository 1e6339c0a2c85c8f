"""Promise [3], with [1] and [2] as far as they speak of ways and lines."""

import unittest

from gripwood.errors import BadLine, BadWay
from gripwood.ways import back, lane, line_of, lines, place, step, ways, ways_of
from tests.helper import GREAT, NO_LINES, NO_WAYS, VECTORS, WoodCase, at_once

WAYS = ["east", "west", "north", "south", "up", "down"]
BACKS = {"east": "west", "west": "east", "north": "south", "south": "north", "up": "down", "down": "up"}
PAIRS = {"long": ["east", "west"], "broad": ["north", "south"], "high": ["up", "down"]}


class Names(WoodCase):
    def test_ways_in_their_order(self):
        self.same(ways(), WAYS)

    def test_lines_in_their_order(self):
        self.same(lines(), ["long", "broad", "high"])

    def test_back(self):
        for way, other in BACKS.items():
            with self.subTest(way):
                self.same(back(way), other)
                self.same(back(back(way)), way)

    def test_line_of(self):
        self.same([line_of(way) for way in WAYS], ["long", "long", "broad", "broad", "high", "high"])

    def test_ways_of(self):
        for line, pair in PAIRS.items():
            with self.subTest(line):
                self.same(ways_of(line), pair)


class Steps(WoodCase):
    def test_one_step_on_each_way(self):
        wanted = {"east": (6, 7, 8), "west": (4, 7, 8), "north": (5, 8, 8),
                  "south": (5, 6, 8), "up": (5, 7, 9), "down": (5, 7, 7)}
        for way, cell in wanted.items():
            with self.subTest(way):
                self.same(step((5, 7, 8), way, 1), cell)

    def test_nought_steps(self):
        for way in WAYS:
            with self.subTest(way):
                self.same(step((-5, 7, 0), way, 0), (-5, 7, 0))

    def test_steps_below_nought_go_back(self):
        for way in WAYS:
            with self.subTest(way):
                self.same(step((5, -7, 8), way, -3), step((5, -7, 8), BACKS[way], 3))
        self.same(step((0, 0, 0), "south", -3), (0, 3, 0))
        self.same(step((0, 0, 0), "up", -3), (0, 0, -3))

    def test_many_steps(self):
        for way, vector in VECTORS.items():
            for many in (2, 17, 10 ** 9, GREAT):
                with self.subTest((way, many)), at_once():
                    self.same(step((0, 0, 0), way, many), tuple(many * number for number in vector))
                    self.same(step((0, 0, 0), way, -many), tuple(-many * number for number in vector))

    def test_from_cells_of_great_numbers(self):
        with at_once():
            self.same(step((GREAT, -GREAT, GREAT), "east", GREAT), (2 * GREAT, -GREAT, GREAT))
            self.same(step((GREAT, -GREAT, GREAT), "west", GREAT), (0, -GREAT, GREAT))
            self.same(step((GREAT, -GREAT, GREAT), "north", GREAT), (GREAT, 0, GREAT))
            self.same(step((GREAT, -GREAT, GREAT), "south", 1), (GREAT, -GREAT - 1, GREAT))
            self.same(step((GREAT, -GREAT, GREAT), "up", 1), (GREAT, -GREAT, 10 ** 30))
            self.same(step((GREAT, -GREAT, GREAT), "down", -GREAT), (GREAT, -GREAT, 2 * GREAT))


class Places(WoodCase):
    def test_place_on_each_way(self):
        self.same([place((5, -7, 11), way) for way in WAYS], [5, -5, -7, 7, 11, -11])

    def test_place_at_nought(self):
        self.same([place((0, 0, 0), way) for way in WAYS], [0, 0, 0, 0, 0, 0])

    def test_place_of_great_numbers(self):
        cell = (GREAT, 1 - GREAT, GREAT - 2)
        self.same([place(cell, way) for way in WAYS],
                  [GREAT, -GREAT, 1 - GREAT, GREAT - 1, GREAT - 2, 2 - GREAT])

    def test_lane_on_each_way(self):
        self.same([lane((5, -7, 11), way) for way in WAYS],
                  [(-7, 11), (-7, 11), (5, 11), (5, 11), (5, -7), (5, -7)])

    def test_lane_of_great_numbers(self):
        self.same(lane((1, GREAT, -GREAT), "west"), (GREAT, -GREAT))
        self.same(lane((GREAT, 1, -GREAT), "north"), (GREAT, -GREAT))
        self.same(lane((GREAT, -GREAT, 1), "down"), (GREAT, -GREAT))

    def test_a_step_changes_the_place_and_not_the_lane(self):
        cell = (3, -4, 5)
        for way in WAYS:
            with self.subTest(way):
                gone = step(cell, way, 9)
                self.assertEqual(place(gone, way), place(cell, way) + 9)
                self.assertEqual(lane(gone, way), lane(cell, way))


class Refusals(WoodCase):
    def test_no_way(self):
        for text in NO_WAYS:
            with self.subTest(text):
                self.refused(BadWay, "bad way", back, text)
                self.refused(BadWay, "bad way", line_of, text)
                self.refused(BadWay, "bad way", step, (0, 0, 0), text, 1)
                self.refused(BadWay, "bad way", step, (0, 0, 0), text, 0)
                self.refused(BadWay, "bad way", place, (0, 0, 0), text)
                self.refused(BadWay, "bad way", lane, (0, 0, 0), text)

    def test_no_line(self):
        for text in NO_LINES:
            with self.subTest(text):
                self.refused(BadLine, "bad line", ways_of, text)


class Kept(WoodCase):
    def test_told_lists_are_not_kept(self):
        calls = [(ways, []), (lines, []), (ways_of, ["long"]), (ways_of, ["broad"]), (ways_of, ["high"])]
        for call, handed in calls:
            with self.subTest(call=call.__name__, handed=handed):
                before = list(call(*handed))
                told = call(*handed)
                told.reverse()
                told.append("left")
                self.same(call(*handed), before)
        told = ways()
        told.clear()
        self.same(back("east"), "west")
        self.same(ways_of("high"), ["up", "down"])
        self.refused(BadWay, "bad way", back, "left")

    def test_a_changed_list_of_lines_changes_nothing(self):
        told = lines()
        told[:] = ["deep"]
        self.same(line_of("up"), "high")
        self.refused(BadLine, "bad line", ways_of, "deep")


if __name__ == "__main__":
    unittest.main()
