"""Promise [5], with [1] and [2] as far as they speak of shapes."""

import copy
import itertools
import unittest

from gripwood.errors import BadLine
from gripwood.shapes import alike, cut, form, hangs, pieces
from tests.helper import GREAT, NO_LINES, VECTORS, WoodCase, all_turns, at_once, led_vector

HOOK = [(0, 0, 0), (1, 0, 0), (2, 0, 0), (2, 1, 0)]
# A screw of four cells, which no turn leads to its mirror.
SCREW = [(0, 0, 0), (1, 0, 0), (1, 1, 0), (1, 1, 1)]
BLOCK = list(itertools.product(range(2), range(3), range(4)))
APART = [(0, 0, 0), (3, 1, -2), (3, 2, -2), (-4, 0, 0)]
SHAPES = [[(0, 0, 0)], [(5, -6, 7)], HOOK, SCREW, BLOCK, APART]


def shifted(cells, by):
    return [tuple(number + more for number, more in zip(cell, by)) for cell in cells]


def mirrored(cells):
    return [(-x, y, z) for x, y, z in cells]


def judged_form(cells):
    """The form by the words of [5], apart from the program."""
    found = []
    for turn in all_turns():
        led = [led_vector(cell, turn) for cell in cells]
        found.append(sorted(shifted(led, [-min(cell[k] for cell in led) for k in range(3)])))
    return min(found)


class Hanging(WoodCase):
    def test_no_cell_and_one_cell(self):
        self.same(hangs([]), True)
        self.same(hangs([(0, 0, 0)]), True)
        self.same(hangs([(-GREAT, GREAT, 0)]), True)

    def test_cells_that_touch(self):
        for way, vector in VECTORS.items():
            with self.subTest(way):
                self.same(hangs([(4, -5, 6), *shifted([vector], (4, -5, 6))]), True)

    def test_cells_that_share_only_an_edge_or_a_corner(self):
        for vector in itertools.product((-1, 0, 1), repeat=3):
            if sum(map(abs, vector)) > 1:
                with self.subTest(vector):
                    self.same(hangs([(0, 0, 0), vector]), False)
                    self.same(pieces([(0, 0, 0), vector]), [[cell] for cell in sorted([(0, 0, 0), vector])])

    def test_cells_far_apart(self):
        with at_once():
            self.same(hangs([(0, 0, 0), (2, 0, 0)]), False)
            self.same(hangs([(0, 0, 0), (0, 0, GREAT)]), False)
            self.same(hangs([(GREAT, 0, 0), (-GREAT, 0, 0)]), False)

    def test_whole_shapes_in_any_order(self):
        for order in itertools.permutations(SCREW):
            with self.subTest(order):
                self.same(hangs(list(order)), True)
        self.same(hangs(BLOCK), True)
        self.same(hangs(APART), False)

    def test_a_ring_and_a_broken_chain(self):
        ring = [cell for cell in itertools.product(range(3), range(3), [0]) if cell != (1, 1, 0)]
        self.same(hangs(ring), True)
        self.same(hangs([cell for cell in ring if cell != (0, 1, 0)]), True)
        self.same(hangs([cell for cell in ring if cell not in [(0, 1, 0), (2, 1, 0)]]), False)

    def test_a_long_row(self):
        row = [(k, 0, 0) for k in range(5000)]
        with at_once():
            self.same(hangs(row), True)
            self.same(hangs(row[::-1]), True)
            self.same(hangs([cell for cell in row if cell != (2500, 0, 0)]), False)


class Pieces(WoodCase):
    def test_no_cell_and_one_cell(self):
        self.same(pieces([]), [])
        self.same(pieces([(1, 2, 3)]), [[(1, 2, 3)]])

    def test_rising_lists_by_their_least_cells(self):
        wanted = [[(-4, 0, 0)], [(0, 0, 0)], [(3, 1, -2), (3, 2, -2)]]
        for order in itertools.permutations(APART):
            with self.subTest(order):
                self.same(pieces(list(order)), wanted)

    def test_by_least_cells_and_not_by_size_or_by_last_cells(self):
        cells = [(0, 0, 0), (1, 0, 0), (2, 0, 0), (3, 0, 0), (0, 2, 0), (0, 5, 0), (0, 5, 1), (-1, 9, 9)]
        self.same(pieces(cells), [[(-1, 9, 9)], [(0, 0, 0), (1, 0, 0), (2, 0, 0), (3, 0, 0)],
                                  [(0, 2, 0)], [(0, 5, 0), (0, 5, 1)]])

    def test_a_shape_that_hangs_is_its_only_piece(self):
        for cells in (HOOK, SCREW, BLOCK):
            with self.subTest(cells):
                self.same(pieces(cells[::-1]), [sorted(cells)])

    def test_pieces_far_apart(self):
        far = [(GREAT, 0, 0), (GREAT - 1, 0, 0), (-GREAT, 0, 0), (GREAT, 1, 0)]
        with at_once():
            self.same(pieces(far), [[(-GREAT, 0, 0)], [(GREAT - 1, 0, 0), (GREAT, 0, 0), (GREAT, 1, 0)]])


class Forms(WoodCase):
    def test_no_cell_and_one_cell(self):
        self.same(form([]), [])
        self.same(form([(-3, 4, GREAT)]), [(0, 0, 0)])

    def test_by_name(self):
        self.same(form([(0, 0, 0), (1, 0, 0)]), [(0, 0, 0), (0, 0, 1)])
        self.same(form([(5, 5, 5), (6, 6, 5)]), [(0, 0, 0), (0, 1, 1)])
        self.same(form(HOOK), [(0, 0, 0), (0, 0, 1), (0, 0, 2), (0, 1, 0)])

    def test_the_least_list_of_all(self):
        for cells in SHAPES:
            with self.subTest(cells):
                self.same(form(cells), judged_form(cells))

    def test_of_shapes_in_any_order(self):
        for order in itertools.permutations(SCREW):
            with self.subTest(order):
                self.same(form(list(order)), judged_form(SCREW))

    def test_of_turned_and_shifted_shapes(self):
        for cells in SHAPES:
            for turn in all_turns():
                with self.subTest((cells, turn)):
                    led = shifted([led_vector(cell, turn) for cell in cells], (17, -GREAT, GREAT - 40))
                    self.same(form(led), judged_form(cells))

    def test_of_mirrored_shapes(self):
        self.same(form(mirrored(HOOK)), form(HOOK))
        self.assertNotEqual(form(mirrored(SCREW)), form(SCREW))
        self.same(form(mirrored(SCREW)), judged_form(mirrored(SCREW)))

    def test_of_cells_far_apart(self):
        far = [(0, 0, 0), (GREAT, 0, 0), (GREAT, -5, 0)]
        with at_once():
            self.same(form(far), judged_form(far))


class Alike(WoodCase):
    def test_no_cell(self):
        self.same(alike([], []), True)
        self.same(alike([], [(0, 0, 0)]), False)
        self.same(alike([(0, 0, 0)], []), False)

    def test_turned_and_shifted(self):
        for cells in SHAPES:
            for turn in all_turns():
                with self.subTest((cells, turn)):
                    led = shifted([led_vector(cell, turn) for cell in cells], (-9, 8, GREAT))
                    self.same(alike(cells, led[::-1]), True)

    def test_mirrored(self):
        self.same(alike(HOOK, mirrored(HOOK)), True)
        self.same(alike(SCREW, mirrored(SCREW)), False)

    def test_unlike(self):
        for one, other in itertools.permutations([[(0, 0, 0)], HOOK, SCREW, BLOCK, APART], 2):
            with self.subTest((one, other)):
                self.same(alike(one, other), False)


class Cuts(WoodCase):
    def test_by_each_line(self):
        cells = [(2, 0, 0), (0, 0, 2), (1, 1, 1), (0, 2, 0)]
        self.same(cut(cells, "long", 1), ([(0, 0, 2), (0, 2, 0)], [(1, 1, 1), (2, 0, 0)]))
        self.same(cut(cells, "broad", 1), ([(0, 0, 2), (2, 0, 0)], [(0, 2, 0), (1, 1, 1)]))
        self.same(cut(cells, "high", 1), ([(0, 2, 0), (2, 0, 0)], [(0, 0, 2), (1, 1, 1)]))

    def test_a_cell_at_the_number_is_among_the_others(self):
        for line in ("long", "broad", "high"):
            with self.subTest(line):
                self.same(cut([(-3, -3, -3)], line, -3), ([], [(-3, -3, -3)]))
                self.same(cut([(-3, -3, -3)], line, -2), ([(-3, -3, -3)], []))

    def test_all_cells_on_one_side(self):
        for line in ("long", "broad", "high"):
            with self.subTest(line):
                self.same(cut(BLOCK[::-1], line, 0), ([], BLOCK))
                self.same(cut(BLOCK[::-1], line, 4), (BLOCK, []))
                self.same(cut(BLOCK, line, -GREAT), ([], BLOCK))
                self.same(cut(BLOCK, line, GREAT), (BLOCK, []))

    def test_no_cell(self):
        self.same(cut([], "high", 0), ([], []))

    def test_sides_need_not_hang_together(self):
        self.same(cut([(0, 0, 0), (0, 1, 0), (1, 1, 0), (2, 1, 0), (2, 0, 0)], "broad", 1),
                  ([(0, 0, 0), (2, 0, 0)], [(0, 1, 0), (1, 1, 0), (2, 1, 0)]))

    def test_great_numbers(self):
        cells = [(GREAT, 0, 0), (GREAT - 1, 0, 0), (-GREAT, 0, 0)]
        with at_once():
            self.same(cut(cells, "long", GREAT), ([(-GREAT, 0, 0), (GREAT - 1, 0, 0)], [(GREAT, 0, 0)]))

    def test_no_line(self):
        for text in NO_LINES:
            with self.subTest(text):
                self.refused(BadLine, "bad line", cut, HOOK, text, 0)
                self.refused(BadLine, "bad line", cut, [], text, 0)


class Kept(WoodCase):
    def test_handed_cells_stay_as_they_were(self):
        calls = [(hangs, []), (pieces, []), (form, []), (cut, ["long", 1])]
        for cells in ([], *SHAPES):
            for call, more in calls:
                with self.subTest(call=call.__name__, cells=cells):
                    handed = cells[::-1]
                    call(handed, *more)
                    self.same(handed, cells[::-1])
            one, other = cells[::-1], cells[1:]
            alike(one, other)
            self.same([one, other], [cells[::-1], cells[1:]])

    def test_told_lists_are_not_kept(self):
        calls = [(pieces, [APART]), (pieces, [[]]), (form, [SCREW]), (form, [[]]), (form, [[(0, 0, 0)]])]
        for call, handed in calls:
            with self.subTest(call=call.__name__, handed=handed):
                before = copy.deepcopy(call(*handed))
                told = call(*handed)
                for within in told:
                    if isinstance(within, list):
                        within.append((9, 9, 9))
                told.append([(9, 9, 9)])
                self.same(call(*handed), before)

    def test_lists_within_a_cut_are_not_kept(self):
        for at in (-1, 0, 1, 5):
            with self.subTest(at):
                before = copy.deepcopy(cut(HOOK, "long", at))
                for side in cut(HOOK, "long", at):
                    side.append((9, 9, 9))
                self.same(cut(HOOK, "long", at), before)

    def test_told_lists_are_not_the_handed_ones(self):
        handed = [(0, 0, 0), (0, 0, 1)]
        for told in (form(handed), *pieces(handed), *cut(handed, "high", 9)):
            told.append((9, 9, 9))
        self.same(handed, [(0, 0, 0), (0, 0, 1)])

    def test_a_changed_handed_list_changes_nothing_told(self):
        handed = [(0, 0, 0), (0, 0, 1)]
        told = [pieces(handed), form(handed), cut(handed, "high", 1)]
        before = copy.deepcopy(told)
        handed.clear()
        self.same(told, before)


if __name__ == "__main__":
    unittest.main()
