"""Points [2], [3], [11] and [12]: sides, fronts, corners."""

import copy
import unittest
from fractions import Fraction
from itertools import product

from roofridges.fronts import corners, fronts, sides
from roofridges.moves import mirrored, turned
from roofridges.yards import lies
from tests.helpers import GREAT, RING, SHAPES, SQUARE, VOID, all_yards, drawn, grids, looker, on_grid, told, whole, worth

EAST, NORTH, WEST, SOUTH = range(4)
TOWARD = {EAST: (1, 0), NORTH: (0, 1), WEST: (-1, 0), SOUTH: (0, -1)}


def near(yard):
    """A number less than half of what lies between any two neighbouring lines."""
    gaps = [high - low for lines in (worth(yard[0]), worth(yard[1])) for low, high in zip(lines, lines[1:])]
    return min(gaps, default=Fraction(1)) / 4


def short_sides(yard):
    """All stretches between neighbouring lines with the yard toward a facing and the outside behind."""
    look, little = looker(yard), near(yard)
    found = set()
    for facing, (step_x, step_y) in TOWARD.items():
        lines, along = (yard[0], yard[1]) if facing in (EAST, WEST) else (yard[1], yard[0])
        for line, (begin, end) in product(lines, zip(along, along[1:])):
            at, middle = Fraction(*line), (Fraction(*begin) + Fraction(*end)) / 2
            x, y = (at, middle) if facing in (EAST, WEST) else (middle, at)
            if (look(x + step_x * little, y + step_y * little)
                    and not look(x - step_x * little, y - step_y * little)):
                found.add((facing, line, begin, end))
    return found


def parted(yard, side):
    """A side by its stretches between neighbouring lines."""
    facing, line, begin, end = side
    along = yard[1] if facing in (EAST, WEST) else yard[0]
    steps = along[along.index(begin):along.index(end) + 1]
    return [(facing, line, low, high) for low, high in zip(steps, steps[1:])]


def side_key(side):
    return (side[0],) + tuple(Fraction(*number) for number in side[1:])


def expected_corners(yard):
    """The points where sides of both ways end, with their kinds by the four cells there."""
    upright, level = set(), set()
    for facing, line, begin, end in sides(yard):
        for along in (begin, end):
            if facing in (EAST, WEST):
                upright.add((line, along))
            else:
                level.add((along, line))
    look, little = looker(yard), near(yard)
    found = []
    for x, y in upright & level:
        at_x, at_y = Fraction(*x), Fraction(*y)
        cells = [(a, b) for a, b in product((-1, 1), repeat=2) if look(at_x + a * little, at_y + b * little)]
        kind = {1: "out", 2: "touch", 3: "in"}[len(cells)]
        if kind == "touch" and (cells[0][0] == cells[1][0] or cells[0][1] == cells[1][1]):
            raise AssertionError("two cells side by side at a corner")
        found.append((x, y, kind))
    return sorted(found, key=lambda corner: (Fraction(*corner[0]), Fraction(*corner[1])))


class SidesTest(unittest.TestCase):
    def test_square(self):
        self.assertEqual(sides(drawn([-3, 4], [5, 9], ["#"])), [
            (EAST, (-3, 1), (5, 1), (9, 1)), (NORTH, (5, 1), (-3, 1), (4, 1)),
            (WEST, (4, 1), (5, 1), (9, 1)), (SOUTH, (9, 1), (-3, 1), (4, 1))])

    def test_ring(self):
        nought, one, two, three = whole(0, 1, 2, 3)
        self.assertEqual(sides(RING), [
            (EAST, nought, nought, three), (EAST, two, one, two), (NORTH, nought, nought, three), (NORTH, two, one, two),
            (WEST, one, one, two), (WEST, three, nought, three), (SOUTH, one, one, two), (SOUTH, three, nought, three)])

    def test_sides_are_sorted_by_what_lines_are_worth(self):
        lines = [Fraction(-5, 2), Fraction(-7, 3), Fraction(-1, 10), Fraction(1, 3), Fraction(1, 2), Fraction(11, 10)]
        yard = drawn(lines, [0, 1], ["#.#.#"])
        self.assertEqual(sides(yard)[:3], [
            (EAST, (-5, 2), (0, 1), (1, 1)), (EAST, (-1, 10), (0, 1), (1, 1)), (EAST, (1, 2), (0, 1), (1, 1))])
        self.assertEqual(sides(yard)[3:6], [
            (NORTH, (0, 1), (-5, 2), (-7, 3)), (NORTH, (0, 1), (-1, 10), (1, 3)), (NORTH, (0, 1), (1, 2), (11, 10))])
        self.assertEqual(fronts(yard), [
            (EAST, (-5, 2)), (EAST, (-1, 10)), (EAST, (1, 2)), (NORTH, (0, 1)),
            (WEST, (-7, 3)), (WEST, (1, 3)), (WEST, (11, 10)), (SOUTH, (1, 1))])

    def test_a_half_behind_a_third_in_both_ways(self):
        third, half = Fraction(1, 3), Fraction(1, 2)
        yard = drawn([0, third, half, 1], [0, third, half, 1], ["###", "#.#", "###"])
        self.assertEqual(fronts(yard), [
            (EAST, (0, 1)), (EAST, (1, 2)), (NORTH, (0, 1)), (NORTH, (1, 2)),
            (WEST, (1, 3)), (WEST, (1, 1)), (SOUTH, (1, 3)), (SOUTH, (1, 1))])
        stairs = drawn([0, third, half, 1], [0, third, half, 1], ["..#", ".##", "###"])
        self.assertEqual(fronts(stairs)[:3], [(EAST, (0, 1)), (EAST, (1, 3)), (EAST, (1, 2))])

    def test_a_side_goes_through_where_the_yard_has_a_line_across(self):
        yard = on_grid(["##", "#.", "##"])
        self.assertEqual([side for side in sides(yard) if side[0] == EAST], [(EAST, (0, 1), (0, 1), (3, 1))])
        self.assertEqual([side for side in sides(yard) if side[0] == WEST], [
            (WEST, (1, 1), (1, 1), (2, 1)), (WEST, (2, 1), (0, 1), (1, 1)), (WEST, (2, 1), (2, 1), (3, 1))])

    def test_a_line_with_sides_of_both_facings(self):
        self.assertEqual(sides(SHAPES["touch"]), [
            (EAST, (0, 1), (0, 1), (1, 1)), (EAST, (1, 1), (1, 1), (2, 1)),
            (NORTH, (0, 1), (0, 1), (1, 1)), (NORTH, (1, 1), (1, 1), (2, 1)),
            (WEST, (1, 1), (0, 1), (1, 1)), (WEST, (2, 1), (1, 1), (2, 1)),
            (SOUTH, (1, 1), (0, 1), (1, 1)), (SOUTH, (2, 1), (1, 1), (2, 1))])

    def test_chess_board(self):
        one, two = (1, 1), (2, 1)
        told_sides = sides(SHAPES["chess"])
        self.assertEqual([side for side in told_sides if side[1] == one and side[0] in (EAST, WEST)], [
            (EAST, one, one, two), (WEST, one, (0, 1), one), (WEST, one, two, (3, 1))])
        self.assertEqual(len(told_sides), 20)
        self.assertEqual(len(sides(GREAT["twelve lines of chess"])), 4 * 61)

    def test_void_yard(self):
        self.assertEqual([sides(VOID), fronts(VOID), corners(VOID)], [[], [], []])

    def test_by_the_words_of_the_document(self):
        for yard in all_yards():
            told_sides = sides(yard)
            parts = [part for side in told_sides for part in parted(yard, side)]
            self.assertEqual(len(parts), len(set(parts)))
            self.assertEqual(set(parts), short_sides(yard))
            self.assertEqual(told_sides, sorted(told_sides, key=side_key))
            begins = {(facing, line, begin) for facing, line, begin, end in told_sides}
            self.assertFalse([side for side in told_sides if (side[0], side[1], side[3]) in begins])

    def test_small_grids(self):
        for rows in grids(3, 3):
            yard = on_grid(rows)
            self.assertEqual({part for side in sides(yard) for part in parted(yard, side)}, short_sides(yard))
            self.assertEqual(corners(yard), expected_corners(yard))

    def test_kinds(self):
        for yard in all_yards():
            for things in (sides(yard), fronts(yard), corners(yard)):
                self.assertIsInstance(things, list)
                self.assertTrue(all(isinstance(thing, tuple) for thing in things))

    def test_what_was_told_is_the_asker_s_own(self):
        for ask in (sides, fronts, corners):
            yard = copy.deepcopy(RING)
            first = ask(yard)
            before = list(first)
            first.reverse()
            first.append(None)
            first[0] = ()
            self.assertEqual(ask(yard), before)
            self.assertEqual(yard, RING)


class FrontsTest(unittest.TestCase):
    def test_each_front_of_a_side_once_and_sorted(self):
        for yard in all_yards():
            told_fronts = fronts(yard)
            self.assertEqual(set(told_fronts), {side[:2] for side in sides(yard)})
            self.assertEqual(told_fronts, sorted(set(told_fronts), key=side_key))

    def test_lines_with_several_sides_are_one_front(self):
        comb = on_grid(["#.#.#", "#####"])
        self.assertEqual([front for front in fronts(comb) if front[0] == NORTH], [(NORTH, (0, 1)), (NORTH, (1, 1))])
        self.assertEqual(len([side for side in sides(comb) if side[:2] == (NORTH, (0, 1))]), 3)
        self.assertEqual(fronts(SQUARE), [(EAST, (0, 1)), (NORTH, (0, 1)), (WEST, (1, 1)), (SOUTH, (1, 1))])

    def test_the_westmost_sides_face_east(self):
        for yard in all_yards():
            if yard != VOID:
                self.assertEqual(fronts(yard)[0], (EAST, yard[0][0]))
                self.assertEqual(fronts(yard)[-1], (SOUTH, yard[1][-1]))


class CornersTest(unittest.TestCase):
    def test_square(self):
        self.assertEqual(corners(drawn([-3, 4], [5, 9], ["#"])), [
            ((-3, 1), (5, 1), "out"), ((-3, 1), (9, 1), "out"), ((4, 1), (5, 1), "out"), ((4, 1), (9, 1), "out")])

    def test_all_four_corners_in(self):
        yard = SHAPES["ell"]
        for count in range(4):
            self.assertEqual([kind for x, y, kind in corners(yard)].count("in"), 1)
            self.assertEqual([kind for x, y, kind in corners(yard)].count("out"), 5)
            yard = turned(yard)
        self.assertEqual(corners(SHAPES["ell"]), [
            ((0, 1), (0, 1), "out"), ((0, 1), (5, 1), "out"), ((1, 1), (0, 1), "out"), ((1, 1), (2, 1), "in"),
            ((3, 1), (2, 1), "out"), ((3, 1), (5, 1), "out")])

    def test_touch_both_ways_across(self):
        for yard in (on_grid(["#.", ".#"]), on_grid([".#", "#."])):
            self.assertEqual([corner for corner in corners(yard) if corner[2] == "touch"], [((1, 1), (1, 1), "touch")])
            self.assertEqual(len(corners(yard)), 7)
        self.assertIn(((1, 3), (0, 1), "touch"), corners(SHAPES["parted touch"]))

    def test_none_where_two_sides_of_one_way_alone_go_through(self):
        self.assertEqual(corners(on_grid(["##", "#.", "##"])), [
            ((0, 1), (0, 1), "out"), ((0, 1), (3, 1), "out"), ((1, 1), (1, 1), "in"), ((1, 1), (2, 1), "in"),
            ((2, 1), (0, 1), "out"), ((2, 1), (1, 1), "out"), ((2, 1), (2, 1), "out"), ((2, 1), (3, 1), "out")])

    def test_sorted_by_what_they_are_worth(self):
        yard = drawn([Fraction(-1, 2), Fraction(1, 3), Fraction(1, 2)], [Fraction(-3, 2), Fraction(-4, 3), 9], ["##", "#."])
        self.assertEqual([corner[:2] for corner in corners(yard)], [
            ((-1, 2), (-3, 2)), ((-1, 2), (9, 1)), ((1, 3), (-4, 3)), ((1, 3), (9, 1)), ((1, 2), (-3, 2)), ((1, 2), (-4, 3))])

    def test_by_the_words_of_the_document(self):
        for yard in all_yards():
            self.assertEqual(corners(yard), expected_corners(yard))
            self.assertTrue(all(lies(yard, x, y) == "rim" for x, y, kind in corners(yard)))

    def test_mirrored_corners_keep_their_kinds(self):
        for yard in all_yards():
            brought = {(told(-Fraction(*x)), y, kind) for x, y, kind in corners(yard)}
            self.assertEqual(set(corners(mirrored(yard))), brought)


if __name__ == "__main__":
    unittest.main()
