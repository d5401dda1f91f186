"""Points [2], [3], [6] and [13]: pieces and holes."""

import copy
import unittest
from fractions import Fraction
from itertools import product

from roofridges.fronts import corners
from roofridges.moves import mirrored, turned
from roofridges.pieces import holes, pieces
from roofridges.sets import both, either, less
from roofridges.yards import is_yard, size
from tests.helpers import (
    GREAT, RING, SHAPES, SQUARE, VOID, all_yards, chess, drawn, grids, looker, middles, nested_rings, on_grid, spiral,
    whole, worth)


def joined(groups, one, other):
    """The groups, with those of the two cells as one."""
    first, second = groups[one], groups[other]
    if first is not second:
        first.extend(second)
        for cell in second:
            groups[cell] = first


def grouped(yard, inside, corner_too):
    """Sets of cells (across, up), 0 beyond the lines, that hang together; by joining each two that are neighbours."""
    look = looker(yard)
    xs, ys = middles(worth(yard[0])), middles(worth(yard[1]))
    cells = [cell for cell in product(range(len(xs)), range(len(ys))) if look(xs[cell[0]], ys[cell[1]]) is inside]
    groups = {cell: [cell] for cell in cells}
    for across, up in cells:
        for step in [(1, 0), (0, 1)] + ([(1, 1), (1, -1)] if corner_too else []):
            near = (across + step[0], up + step[1])
            if near in groups:
                joined(groups, (across, up), near)
    return {frozenset(group) for group in groups.values()}


def cells_of(yard, part):
    """The cells of a yard's lines that lie in another yard, which has no lines but these."""
    look = looker(part)
    xs, ys = middles(worth(yard[0])), middles(worth(yard[1]))
    return frozenset(cell for cell in product(range(len(xs)), range(len(ys))) if look(xs[cell[0]], ys[cell[1]]))


def sort_key(part):
    """The south line of the lowest row, and the west line of the westmost cell in it."""
    return (Fraction(*part[1][0]), Fraction(*part[0][part[2][0].index("#")]))


class PiecesTest(unittest.TestCase):
    def test_one_piece_is_the_yard_itself(self):
        for name in ("square", "bar", "ell", "cup", "cross", "stairs", "comb", "ring", "huge"):
            self.assertEqual(pieces(SHAPES[name]), [SHAPES[name]])
        for name in ("twelve lines of winding", "twelve lines of winding, from the top"):
            self.assertEqual(pieces(GREAT[name]), [GREAT[name]])
            self.assertEqual(holes(GREAT[name]), [])

    def test_void_yard(self):
        self.assertEqual([pieces(VOID), holes(VOID)], [[], []])

    def test_cells_that_touch_at_a_corner_alone_are_two_pieces(self):
        self.assertEqual(pieces(SHAPES["touch"]), [SQUARE, drawn([1, 2], [1, 2], ["#"])])
        self.assertEqual(pieces(SHAPES["other touch"]), [drawn([1, 2], [0, 1], ["#"]), drawn([0, 1], [1, 2], ["#"])])
        self.assertEqual(holes(SHAPES["touch"]), [])
        self.assertEqual(len(pieces(GREAT["twelve lines of chess"])), 61)
        self.assertEqual(holes(GREAT["twelve lines of chess"]), [])

    def test_pieces_are_told_tidy(self):
        yard = on_grid(["##.#", "##..", "...#", "##.#"])
        self.assertEqual(pieces(yard), [
            (whole(0, 2), whole(0, 2), ("#",)), (whole(3, 4), whole(0, 1), ("#",)),
            (whole(3, 4), whole(2, 4), ("#",)), (whole(0, 2), whole(3, 4), ("#",))])

    def test_sorted_by_south_line_then_by_the_west_line_of_the_lowest_row(self):
        # The hook reaches farther west than the bar, but in the lowest row it begins farther east.
        yard = on_grid([".#.#", "...#", "####"])
        self.assertEqual([part[0][0] for part in pieces(yard)], [(1, 1), (0, 1)])
        upper = on_grid(["..#", "#.#", "#.."])
        self.assertEqual([part[1][0] for part in pieces(upper)], [(0, 1), (1, 1)])
        parted = drawn([0, Fraction(1, 3), Fraction(1, 2), 1], [Fraction(-1, 2), Fraction(-1, 3), 0, 1], [".#.", "#.#", "..."])
        self.assertEqual([part[1][0] for part in pieces(parted)], [(-1, 2), (-1, 3), (-1, 3)])
        self.assertEqual([part[0][0] for part in pieces(parted)], [(1, 3), (0, 1), (1, 2)])

    def test_holes(self):
        self.assertEqual(holes(RING), [drawn([1, 2], [1, 2], ["#"])])
        self.assertEqual(holes(SHAPES["square"]), [])
        self.assertEqual(holes(SHAPES["cup"]), [])

    def test_outside_cells_that_touch_at_a_corner_hang_together(self):
        self.assertEqual(holes(SHAPES["two holes that touch"]), [drawn([1, 2, 3], [1, 2, 3], ["#.", ".#"])])
        self.assertEqual(holes(SHAPES["hole at a touch"]), [])
        self.assertEqual(holes(SHAPES["ring shut by a touch"]), [])
        self.assertEqual(pieces(SHAPES["ring shut by a touch"]), [
            on_grid(["##", "#."]), drawn([1, 2, 3], [1, 2, 3], [".#", "##"])])
        corner_out = on_grid(["###.", "#.##", "####"])
        self.assertEqual(len(holes(corner_out)), 1)

    def test_holes_at_the_first_and_last_lines_are_none(self):
        self.assertEqual(holes(on_grid(["#.#", "###", "#.#"])), [])
        self.assertEqual(holes(on_grid([".##", "###", "##."])), [])

    def test_holes_are_sorted(self):
        yard = on_grid(["#######", "#.#####", "###.#.#", "#.###.#", "#######"])
        self.assertEqual([(hole[0][0], hole[1][0]) for hole in holes(yard)], [
            ((1, 1), (1, 1)), ((3, 1), (2, 1)), ((5, 1), (2, 1)), ((1, 1), (3, 1))])

    def test_holes_within_pieces_within_holes(self):
        rings = GREAT["twelve lines of rings"]
        self.assertEqual([len(part[0]) for part in pieces(rings)], [4, 4, 4])
        self.assertEqual([len(hole[0]) for hole in holes(rings)], [4, 4, 2])
        self.assertEqual([hole[1][0] for hole in holes(rings)], [(1, 1), (3, 1), (5, 1)])
        for outer, hole in zip(pieces(rings), holes(rings)):
            self.assertEqual(len(holes(outer)), 1)
            self.assertEqual(both(hole, rings), VOID)
        self.assertEqual(holes(pieces(rings)[1]), [(whole(3, 8), whole(3, 8), ("#",))])

    def test_winding_holes(self):
        way = spiral(11)[1:]
        closed = ["#" * 13] + ["#" + "".join("#."[sign == "#"] for sign in row) + "#" for row in way] + ["#" * 13]
        yard = on_grid(closed)
        self.assertEqual(len(holes(yard)), 1)
        self.assertEqual(size(holes(yard)[0]), size(on_grid(way)))
        self.assertEqual(len(pieces(yard)), 1)

    def test_by_the_words_of_the_document(self):
        for yard in all_yards() + [on_grid(rows) for rows in grids(3, 3)]:
            told_pieces, told_holes = pieces(yard), holes(yard)
            self.assertTrue(all(is_yard(part) for part in told_pieces + told_holes))
            self.assertEqual({cells_of(yard, part) for part in told_pieces}, grouped(yard, True, False))
            outside = {group for group in grouped(yard, False, True) if (0, 0) not in group}
            self.assertEqual({cells_of(yard, hole) for hole in told_holes}, outside)
            for parts in (told_pieces, told_holes):
                self.assertEqual(len(parts), len(set(parts)))
                self.assertEqual(parts, sorted(parts, key=sort_key))

    def test_all_holes_of_six_cells(self):
        for rows in [["####"] + ["#" + row + "#" for row in inner] + ["####"] for inner in grids(2, 3)]:
            yard = on_grid(rows)
            self.check_count(yard)
            outside = {group for group in grouped(yard, False, True) if (0, 0) not in group}
            self.assertEqual(len(holes(yard)), len(outside))

    def check_count(self, yard):
        kinds = [kind for x, y, kind in corners(yard)]
        corner_count = kinds.count("out") - kinds.count("in") + 2 * kinds.count("touch")
        self.assertEqual(corner_count, 4 * len(pieces(yard)) - 4 * len(holes(yard)))

    def test_corners_count_pieces_and_holes(self):
        for yard in all_yards():
            self.check_count(yard)
        for rows in grids(4, 3)[::5]:
            self.check_count(on_grid(rows))

    def test_sizes_together(self):
        for yard in all_yards():
            together, filled = VOID, yard
            for part in pieces(yard):
                self.assertEqual(both(part, together), VOID)
                together = either(together, part)
            self.assertEqual(together, yard)
            self.assertEqual(sum(Fraction(*size(part)) for part in pieces(yard)), Fraction(*size(yard)))
            for hole in holes(yard):
                self.assertEqual(less(hole, yard), hole)
                filled = either(filled, hole)
            self.assertEqual(holes(filled), [])

    def test_turned_and_mirrored_yards_have_as_many(self):
        for yard in all_yards():
            for brought in (turned(yard), mirrored(yard)):
                self.assertEqual((len(pieces(brought)), len(holes(brought))), (len(pieces(yard)), len(holes(yard))))

    def test_more_than_twelve_lines(self):
        self.assertEqual(len(pieces(on_grid(chess(20, 20)))), 200)
        self.assertEqual(len(pieces(on_grid(spiral(31)))), 1)
        self.assertEqual(len(holes(on_grid(nested_rings(21)))), 5)

    def test_what_was_told_is_the_asker_s_own(self):
        for ask, yard in ((pieces, SHAPES["chess"]), (holes, SHAPES["ring in ring"])):
            before_yard = copy.deepcopy(yard)
            first = ask(yard)
            self.assertIsInstance(first, list)
            before = list(first)
            first.reverse()
            first.pop()
            self.assertEqual(ask(yard), before)
            self.assertEqual(yard, before_yard)


if __name__ == "__main__":
    unittest.main()
