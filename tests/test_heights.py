"""Points [2], [3], [4], [10] and [15] to [17]: heights, touched fronts, papers."""

import copy
import random
import unittest
from fractions import Fraction

from roofridges.errors import NoPoint, RoofError
from roofridges.fronts import fronts, sides
from roofridges.heights import height, paper, shows, touched
from roofridges.moves import mirrored, mirrored_paces, moved, stretched, turned, turned_paces
from roofridges.sets import both
from roofridges.yards import lies
from tests.helpers import (
    BIG, GREAT, HUGE, PACES, RING, SHAPES, VOID, box_lies_in, drawn, expected_height, expected_touch, on_grid, points_of,
    some_yards, told, turning_heights)

EAST, NORTH, WEST, SOUTH = range(4)
ONES = (1, 1, 1, 1)
HALL = drawn([0, 10], [0, 6], ["#"])
ELL = drawn([0, 4, 10], [0, 4, 10], ["#.", "##"])
NOUGHT = (0, 1)
HALF = Fraction(1, 2)
WEST_WALL = (EAST, NOUGHT, NOUGHT, (6, 1))


def cases(seed, most_points=30):
    """Yards with paces and some of the points within their cells, on their lines, at crossings and beyond."""
    dice = random.Random(seed)
    yards = list(SHAPES.values()) + some_yards(seed, 16) + list(GREAT.values())[1:3]
    for place, yard in enumerate(yards):
        many = points_of(yard)
        yield yard, PACES[place % len(PACES)], dice.sample(many, min(most_points, len(many)))


def in_cases(seed, most_points=30):
    for yard, paces, many in cases(seed, most_points):
        for x, y in many:
            yield yard, paces, x, y


class HeightTest(unittest.TestCase):
    def check(self, yard, paces, expected):
        for x, y, worth_of_it in expected:
            with self.subTest(yard=yard, paces=paces, x=x, y=y):
                self.assertEqual(height(yard, paces, told(x), told(y)), told(worth_of_it))

    def test_paces_all_alike(self):
        self.check(HALL, ONES, [(5, 3, 3), (3, 3, 3), (1, 3, 1), (9, 3, 1), (5, 1, 1), (5, 5, 1), (HALF, 3, HALF)])
        self.check(HALL, (2, 2, 2, 2), [(5, 3, 3 * HALF), (1, 3, HALF)])

    def test_paces_all_unlike(self):
        paces = (1, 2, 3, 4)
        self.check(HALL, paces, [
            (1, 3, Fraction(3, 4)), (HALF, 3, HALF), (9, 3, Fraction(1, 3)), (5, 1, HALF),
            (5, 5, Fraction(1, 4)), (5, 2, 1), (Fraction(5, 2), 2, 1), (7, 2, 1), (Fraction(15, 2), 2, Fraction(5, 6))])

    def test_each_pace_by_its_own_side(self):
        for facing, (x, y) in enumerate([(1, 3), (5, 1), (9, 3), (5, 5)]):
            paces = [1, 1, 1, 1]
            paces[facing] = 7
            self.check(HALL, tuple(paces), [(x, y, Fraction(1, 7))])
            self.assertEqual(touched(HALL, tuple(paces), told(x), told(y)), [fronts(HALL)[facing]])

    def test_nought_on_the_rim_and_outside(self):
        self.check(ELL, ONES, [
            (0, 3, 0), (0, 0, 0), (4, 2, 0), (4, 4, 0), (7, 4, 0), (10, 10, 0), (5, 2, 0), (9, Fraction(39, 10), 0),
            (-1, 3, 0), (11, 5, 0), (2, -1, 0), (2, 11, 0), (-5, -5, 0), (4, -1, 0), (20, 4, 0), (10, 0, 0)])
        self.check(SHAPES["touch"], ONES, [(1, 1, 0), (3 * HALF, HALF, 0)])
        self.check(VOID, ONES, [(0, 0, 0), (HALF, 5, 0)])

    def test_on_lines_and_at_crossings_within(self):
        self.check(ELL, ONES, [(4, 7, 3), (4, 5, 1), (2, 4, 2), (3, 4, 1), (4, Fraction(9, 2), HALF)])
        full = on_grid(["#.#", "###", "##."])
        self.check(full, ONES, [(1, 2, 1), (1, 3 * HALF, HALF)])

    def test_corner_in_stops_the_box_by_its_corner(self):
        # The corner in lies at (4, 4), the yard all round it but toward the south and east.
        self.check(ELL, ONES, [(3, 5, 1), (Fraction(7, 2), Fraction(9, 2), HALF), (2, 6, 2), (2, 7, 2), (3, 7, 3)])
        self.check(ELL, (1, 3, 1, 1), [(3, 5, 1), (3, 7, 1)])
        self.check(ELL, (1, 1, 3, 1), [(3, 5, 1), (3, 6, 2)])

    def test_hole_stops_the_box(self):
        self.check(drawn([0, 4, 5, 9], [0, 4, 5, 9], ["###", "#.#", "###"]), ONES, [
            (2, 2, 2), (3, 3, 1), (2, Fraction(9, 2), 2), (Fraction(5, 2), Fraction(9, 2), 3 * HALF), (6, 6, 1)])

    def test_by_the_box_of_each_cell_outside(self):
        for yard, paces, x, y in in_cases(21):
            told_height = height(yard, paces, told(x), told(y))
            worth_of_it = Fraction(*told_height)
            self.assertEqual(told(worth_of_it), told_height)
            self.assertTrue(box_lies_in(yard, paces, x, y, worth_of_it))
            # Between two turning heights nothing changes, so a little more stands for all that is more.
            more = [one for one in turning_heights(yard, paces, x, y) if one > worth_of_it]
            greater = (worth_of_it + more[0]) / 2 if more else worth_of_it + 1
            self.assertFalse(box_lies_in(yard, paces, x, y, greater))
            self.assertEqual(worth_of_it > 0, lies(yard, told(x), told(y)) == "in")

    def test_every_point_of_small_yards_for_all_paces(self):
        for name in ("ell", "touch", "parted touch", "wide ring", "cross"):
            yard = SHAPES[name]
            for paces in PACES:
                for x, y in points_of(yard):
                    expected = expected_height(yard, paces, x, y)
                    self.assertEqual(height(yard, paces, told(x), told(y)), told(expected))

    def test_sixty_figures(self):
        for x, y in [(Fraction(-BIG, 2), Fraction(1, BIG)), (Fraction(-1, BIG), Fraction(BIG - 1, BIG)), 
                     (Fraction(-BIG + 1), HALF), (Fraction(BIG - 1, BIG), Fraction(BIG - 2, BIG - 1)),
                     (Fraction(1, BIG), Fraction(1, BIG - 1))]:
            for paces in PACES:
                self.assertEqual(height(HUGE, paces, told(x), told(y)), told(expected_height(HUGE, paces, x, y)))

    def test_lesser_of_both_heights_is_that_of_what_two_yards_have_in_common(self):
        yards = list(SHAPES.values())[1:-1]
        for place, (one, other) in enumerate(zip(yards, yards[3:] + yards[:3])):
            paces, common = PACES[place % 5], both(one, other)
            for x, y in points_of(one, other)[::9]:
                point = (told(x), told(y))
                lesser = min(Fraction(*height(one, paces, *point)), Fraction(*height(other, paces, *point)))
                self.assertEqual(height(common, paces, *point), told(lesser))

    def test_moved_turned_and_mirrored(self):
        for yard, paces, x, y in in_cases(22, 8):
            expected = height(yard, paces, told(x), told(y))
            by_x, by_y = Fraction(-7, 3), Fraction(5, 2)
            self.assertEqual(height(moved(yard, told(by_x), told(by_y)), paces, told(x + by_x), told(y + by_y)), expected)
            self.assertEqual(height(turned(yard), turned_paces(paces), told(-y), told(x)), expected)
            self.assertEqual(height(mirrored(yard), mirrored_paces(paces), told(-x), told(y)), expected)

    def test_stretched_with_paces(self):
        for yard, (east, north, west, south), x, y in in_cases(23, 8):
            for by_x, by_y in [(2, 1), (1, 9), (3, 2), (4, 4)]:
                paces = (east * by_x, north * by_y, west * by_x, south * by_y)
                if max(paces) <= 9:
                    brought = stretched(yard, told(by_x), told(by_y))
                    self.assertEqual(height(brought, paces, told(x * by_x), told(y * by_y)),
                                     height(yard, (east, north, west, south), told(x), told(y)))

    def test_stretched_by_one_number(self):
        for yard, paces, x, y in in_cases(24, 6):
            for by in (Fraction(1, 3), Fraction(5, 2), Fraction(7)):
                brought = stretched(yard, told(by), told(by))
                expected = Fraction(*height(yard, paces, told(x), told(y))) * by
                self.assertEqual(height(brought, paces, told(x * by), told(y * by)), told(expected))

    def test_more_lines_and_more_fronts_than_bounded(self):
        yard = on_grid(["#" * 15] + ["#.#.#.#.#.#.#.#"] * 2 + ["#" * 15])
        self.check(yard, ONES, [(HALF, 2, HALF), (7, HALF, HALF), (3 * HALF, 2, 0)])

    def test_what_is_handed_in_stays(self):
        yard, paces = copy.deepcopy(ELL), (1, 2, 3, 4)
        before = copy.deepcopy((yard, paces))
        for count in range(2):
            height(yard, paces, (2, 1), (6, 1)), touched(yard, paces, (2, 1), (6, 1)), paper(yard, paces, (2, 1), (6, 1))
        self.assertEqual((yard, paces), before)


class TouchedTest(unittest.TestCase):
    def test_one_two_and_more_at_once(self):
        self.assertEqual(touched(HALL, ONES, (1, 1), (3, 1)), [(EAST, NOUGHT)])
        self.assertEqual(touched(HALL, ONES, (1, 1), (1, 1)), [(EAST, NOUGHT), (NORTH, NOUGHT)])
        self.assertEqual(touched(HALL, ONES, (5, 1), (3, 1)), [(NORTH, NOUGHT), (SOUTH, (6, 1))])
        self.assertEqual(touched(HALL, ONES, (3, 1), (3, 1)), [(EAST, NOUGHT), (NORTH, NOUGHT), (SOUTH, (6, 1))])
        self.assertEqual(touched(drawn([0, 6], [0, 6], ["#"]), ONES, (3, 1), (3, 1)), [
            (EAST, NOUGHT), (NORTH, NOUGHT), (WEST, (6, 1)), (SOUTH, (6, 1))])
        self.assertEqual(touched(drawn([0, 4], [0, 6], ["#"]), (1, 2, 3, 4), (1, 1), (2, 1)), [
            (EAST, NOUGHT), (NORTH, NOUGHT), (WEST, (4, 1)), (SOUTH, (6, 1))])

    def test_ends_of_sides_are_counted(self):
        # The box from (1, 4) to (4, 7) lies with its corner at the corner in, where two sides end.
        self.assertEqual(touched(ELL, ONES, (5, 2), (11, 2)), [(NORTH, (4, 1)), (WEST, (4, 1))])
        self.assertEqual(touched(ELL, (2, 1, 1, 1), (3, 1), (5, 1)), [(NORTH, (4, 1)), (WEST, (4, 1))])
        self.assertEqual(touched(ELL, (3, 1, 1, 1), (3, 1), (5, 1)), [(EAST, NOUGHT), (NORTH, (4, 1)), (WEST, (4, 1))])

    def test_a_front_with_several_sides_is_told_once(self):
        comb = on_grid(["#.#", "###", "###"])
        self.assertEqual(touched(comb, (1, 3, 1, 1), (3, 2), (2, 1)), [(NORTH, (1, 1))])
        two = drawn([0, 4, 5, 9], [0, 1, 3], ["#.#", "###"])
        self.assertEqual(touched(two, (9, 1, 9, 1), (9, 2), (2, 1)), [(EAST, NOUGHT), (WEST, (9, 1))])
        slit = on_grid([".#.", "###", "###", "###"])
        self.assertEqual(touched(slit, (1, 1, 1, 1), (3, 2), (5, 2)), [
            (EAST, NOUGHT), (NORTH, (1, 1)), (WEST, (3, 1)), (SOUTH, (4, 1))])

    def test_on_the_rim_those_on_whose_sides_the_point_lies(self):
        self.assertEqual(touched(ELL, ONES, NOUGHT, (3, 1)), [(EAST, NOUGHT)])
        self.assertEqual(touched(ELL, ONES, NOUGHT, NOUGHT), [(EAST, NOUGHT), (NORTH, NOUGHT)])
        self.assertEqual(touched(ELL, ONES, (4, 1), (4, 1)), [(NORTH, (4, 1)), (WEST, (4, 1))])
        self.assertEqual(touched(ELL, ONES, (10, 1), (10, 1)), [(WEST, (10, 1)), (SOUTH, (10, 1))])
        self.assertEqual(touched(SHAPES["touch"], ONES, (1, 1), (1, 1)), [
            (EAST, (1, 1)), (NORTH, (1, 1)), (WEST, (1, 1)), (SOUTH, (1, 1))])

    def test_outside_none(self):
        for x, y in [(6, 2), (-1, 3), (4, -1), (10, 2), (20, 4), (10, 0)]:
            self.assertEqual(touched(ELL, ONES, told(x), told(y)), [])
        self.assertEqual(touched(VOID, ONES, NOUGHT, NOUGHT), [])
        self.assertEqual(touched(RING, ONES, (3, 2), (3, 2)), [])

    def test_sorted_by_what_lines_are_worth(self):
        third = drawn([Fraction(1, 3), 2], [Fraction(-1, 2), HALF], ["#"])
        self.assertEqual(touched(third, ONES, (5, 6), NOUGHT), [(EAST, (1, 3)), (NORTH, (-1, 2)), (SOUTH, (1, 2))])

    def test_by_the_words_of_the_document(self):
        for yard, paces, x, y in in_cases(31):
            worth_of_it = Fraction(*height(yard, paces, told(x), told(y)))
            expected = [front for front in fronts(yard)
                        if any(side[:2] == front and expected_touch(paces, x, y, worth_of_it, side) for side in sides(yard))]
            told_fronts = touched(yard, paces, told(x), told(y))
            self.assertEqual(told_fronts, expected)
            self.assertEqual(told_fronts == [], lies(yard, told(x), told(y)) == "out")

    def test_what_was_told_is_the_asker_s_own(self):
        first = touched(HALL, ONES, (3, 1), (3, 1))
        self.assertIsInstance(first, list)
        first.clear()
        self.assertEqual(len(touched(HALL, ONES, (3, 1), (3, 1))), 3)


class PaperTest(unittest.TestCase):
    def test_first_side_that_touches(self):
        self.assertEqual(paper(HALL, ONES, (3, 1), (3, 1)), ((3, 1), WEST_WALL))
        self.assertEqual(paper(HALL, ONES, (5, 1), (3, 1)), ((3, 1), (NORTH, NOUGHT, NOUGHT, (10, 1))))
        self.assertEqual(paper(HALL, (1, 1, 1, 2), (5, 1), (5, 1)), ((1, 2), (SOUTH, (6, 1), NOUGHT, (10, 1))))
        comb = on_grid(["#.#.#", "#####"])
        self.assertEqual(paper(comb, ONES, (3, 1), (3, 2)), ((1, 2), (NORTH, (1, 1), (3, 1), (4, 1))))

    def test_on_the_rim_of_height_nought(self):
        self.assertEqual(paper(ELL, ONES, NOUGHT, (3, 1)), (NOUGHT, (EAST, NOUGHT, NOUGHT, (10, 1))))
        self.assertEqual(paper(ELL, ONES, (4, 1), (4, 1)), (NOUGHT, (NORTH, (4, 1), (4, 1), (10, 1))))
        self.assertEqual(paper(ELL, ONES, (10, 1), (10, 1)), (NOUGHT, (WEST, (10, 1), (4, 1), (10, 1))))

    def test_refused_outside(self):
        for yard, x, y in [(ELL, 6, 2), (ELL, -1, 3), (ELL, 10, 0), (ELL, 4, -1), (VOID, 0, 0), (RING, 3 * HALF, 3 * HALF)]:
            with self.subTest(yard=yard, x=x, y=y):
                with self.assertRaises(NoPoint):
                    paper(yard, ONES, told(x), told(y))
                with self.assertRaises(RoofError):
                    paper(yard, (1, 2, 3, 4), told(x), told(y))

    def test_by_the_words_of_the_document(self):
        for yard, paces, x, y in in_cases(41):
            if lies(yard, told(x), told(y)) == "out":
                with self.assertRaises(NoPoint):
                    paper(yard, paces, told(x), told(y))
                continue
            worth_of_it = expected_height(yard, paces, x, y)
            first = [side for side in sides(yard) if expected_touch(paces, x, y, worth_of_it, side)][0]
            told_paper = paper(yard, paces, told(x), told(y))
            self.assertEqual(told_paper, (told(worth_of_it), first))
            self.assertIsInstance(told_paper, tuple)
            self.assertIs(shows(yard, paces, told(x), told(y), told_paper), True)


class ShowsTest(unittest.TestCase):
    def check_not(self, yard, paces, x, y, things):
        for thing in things:
            with self.subTest(thing=thing, x=x, y=y):
                before = copy.deepcopy(thing)
                self.assertIs(shows(yard, paces, told(x), told(y), thing), False)
                self.assertEqual(thing, before)

    def test_each_side_that_touches(self):
        for side in [WEST_WALL, (NORTH, NOUGHT, NOUGHT, (10, 1)), (SOUTH, (6, 1), NOUGHT, (10, 1))]:
            self.assertIs(shows(HALL, ONES, (3, 1), (3, 1), ((3, 1), side)), True)
        self.check_not(HALL, ONES, 3, 3, [((3, 1), (WEST, (10, 1), NOUGHT, (6, 1)))])

    def test_another_height(self):
        side = WEST_WALL
        self.check_not(HALL, ONES, 3, 3, [(number, side) for number in [
            NOUGHT, (1, 1), (2, 1), (4, 1), (5, 2), (7, 2), (-3, 1), (-1, 2), (BIG, 1), (1, BIG), (3 * BIG - 1, BIG)]])

    def test_another_side(self):
        self.check_not(HALL, ONES, 3, 3, [((3, 1), side) for side in [
            (WEST, NOUGHT, NOUGHT, (6, 1)), (EAST, (1, 1), NOUGHT, (6, 1)), (EAST, NOUGHT, NOUGHT, (5, 1)),
            (EAST, NOUGHT, (1, 1), (6, 1)),
            (EAST, NOUGHT, (6, 1), NOUGHT), (NORTH, NOUGHT, NOUGHT, (6, 1)), (4, NOUGHT, NOUGHT, (6, 1)),
            (-4, NOUGHT, NOUGHT, (6, 1)),
            (BIG, NOUGHT, NOUGHT, (6, 1)), (EAST, NOUGHT), (EAST, NOUGHT, NOUGHT),
            (EAST, NOUGHT, NOUGHT, (6, 1), (7, 1)), ()]])

    def test_truths_in_the_place_of_numbers(self):
        square = drawn([0, 1], [0, 1], ["#"])
        east, north = (EAST, NOUGHT, NOUGHT, (1, 1)), (NORTH, NOUGHT, NOUGHT, (1, 1))
        at = (1, 2)
        self.assertIs(shows(square, ONES, at, at, (at, east)), True)
        self.assertIs(shows(square, ONES, at, at, (at, north)), True)
        self.check_not(square, ONES, HALF, HALF, [
            (at, (False, NOUGHT, NOUGHT, (1, 1))), (at, (True, NOUGHT, NOUGHT, (1, 1))), ((True, 2), east),
            (at, (EAST, (False, 1), NOUGHT, (1, 1))), (at, (EAST, (0, True), NOUGHT, (1, 1))),
            (at, (EAST, NOUGHT, (False, 1), (1, 1))), (at, (EAST, NOUGHT, (0, True), (1, 1))),
            (at, (EAST, NOUGHT, NOUGHT, (True, 1))), (at, (EAST, NOUGHT, NOUGHT, (1, True))),
            (at, (EAST, False, False, True))])
        self.check_not(square, ONES, 0, HALF, [((False, 1), east), ((0, True), east), (False, east), (0, east)])
        self.assertIs(shows(square, ONES, NOUGHT, at, (NOUGHT, east)), True)

    def test_lists_for_tuples(self):
        self.check_not(HALL, ONES, 3, 3, [
            [(3, 1), WEST_WALL], ([3, 1], WEST_WALL), ((3, 1), [EAST, NOUGHT, NOUGHT, (6, 1)]),
            ((3, 1), (EAST, [0, 1], NOUGHT, (6, 1))), ((3, 1), (EAST, NOUGHT, [0, 1], (6, 1))),
            ((3, 1), (EAST, NOUGHT, NOUGHT, [6, 1])),
            [[3, 1], [EAST, [0, 1], [0, 1], [6, 1]]]])

    def test_numbers_not_in_lowest_terms(self):
        self.check_not(HALL, ONES, 3, 3, [
            ((6, 2), WEST_WALL), ((-3, -1), WEST_WALL), ((3, 0), WEST_WALL),
            ((3, 1), (EAST, (0, 2), NOUGHT, (6, 1))), ((3, 1), (EAST, NOUGHT, (0, 2), (6, 1))),
            ((3, 1), (EAST, NOUGHT, NOUGHT, (12, 2))),
            ((3, 1), (EAST, (0, -1), NOUGHT, (6, 1)))])
        self.check_not(HALL, ONES, 0, 3, [((0, 2), WEST_WALL), ((0, -1), WEST_WALL)])

    def test_heights_below_nought(self):
        # The side lies on the edge of a box that would be turned inside out.
        self.check_not(HALL, ONES, 3, 3, [
            ((-7, 1), (EAST, (10, 1), NOUGHT, (6, 1))), ((-7, 1), (WEST, (10, 1), NOUGHT, (6, 1))),
            ((-3, 1), (WEST, (10, 1), NOUGHT, (6, 1)))])
        self.check_not(HALL, ONES, -3, 3, [((-3, 1), WEST_WALL)])
        self.check_not(HALL, (1, 1, 3, 1), 11, 3, [((-1, 3), (WEST, (10, 1), NOUGHT, (6, 1)))])

    def test_any_plain_thing(self):
        deep = ()
        for step in range(39):
            deep = [deep] if step % 2 else (deep,)
        things = [
            None, True, False, 0, 1, 3, -7, BIG, "", "3", "paper", "((3, 1), (0, (0, 1), (0, 1), (6, 1)))",
            (), [], ((),), (None, None),
            ((3, 1),), ((3, 1), None), ((3, 1), True), ((3, 1), 0), ((3, 1), "east"),
            ((3, 1), (0, 0, 0, 6)), (3, (0, 0, 0, 6)),
            ("3", WEST_WALL), (None, WEST_WALL), ((), WEST_WALL),
            ((3, 1), (None, NOUGHT, NOUGHT, (6, 1))), ((3, 1), ("0", NOUGHT, NOUGHT, (6, 1))),
            ((3, 1), (EAST, None, NOUGHT, (6, 1))),
            ((3, 1), (EAST, "0", NOUGHT, (6, 1))), ((3, 1), ((), NOUGHT, NOUGHT, (6, 1))),
            ((3, 1), ([], NOUGHT, NOUGHT, (6, 1))),
            ((3, 1), WEST_WALL, ()), ((3, 1), WEST_WALL, WEST_WALL),
            (WEST_WALL, (3, 1)), deep, [deep], ((3, 1), deep), (deep, WEST_WALL),
            ((3, 1), (EAST, deep, NOUGHT, (6, 1))), ((3, 1), (deep, deep, deep, deep)), HALL, ("east", "north"), "ab",
        ]
        self.assertIs(shows(HALL, ONES, (3, 1), (3, 1), ((3, 1), WEST_WALL)), True)
        for yard, x, y in [(HALL, 3, 3), (HALL, 0, 3), (HALL, -1, 3), (HALL, 50, 50), (VOID, 3, 3)]:
            self.check_not(yard, ONES, x, y, things)

    def test_outside_no_paper_shows(self):
        for yard, x, y in [(ELL, 6, 2), (ELL, -1, 3), (ELL, 10, 2), (ELL, 4, -1), (ELL, 8, 0), (RING, 3 * HALF, 3 * HALF)]:
            heights = [told(one) for one in turning_heights(yard, ONES, Fraction(x), Fraction(y))]
            self.check_not(yard, ONES, x, y, [(number, side) for number in heights + [(1, 3)] for side in sides(yard)])
        self.check_not(VOID, ONES, 0, 0, [(NOUGHT, (EAST, NOUGHT, NOUGHT, (1, 1)))])

    def test_by_the_words_of_the_document(self):
        for yard, paces, x, y in in_cases(51, 5):
            heights = turning_heights(yard, paces, x, y)
            for worth_of_it in heights + [heights[-1] / 2, heights[-1] + 1]:
                lies_in = box_lies_in(yard, paces, x, y, worth_of_it)
                for side in sides(yard)[::1 + len(sides(yard)) // 12]:
                    expected = lies_in and expected_touch(paces, x, y, worth_of_it, side)
                    self.assertIs(shows(yard, paces, told(x), told(y), (told(worth_of_it), side)), expected)

    def test_whatever_paper_shows_has_the_height(self):
        for yard, paces, x, y in in_cases(52, 6):
            worth_of_it = height(yard, paces, told(x), told(y))
            shown = [side for side in sides(yard) if shows(yard, paces, told(x), told(y), (worth_of_it, side))]
            self.assertEqual(sorted({side[:2] for side in shown}), sorted(touched(yard, paces, told(x), told(y))))

    def test_sides_of_another_yard(self):
        self.check_not(HALL, ONES, 3, 3, [((3, 1), side) for side in sides(ELL)])
        self.check_not(ELL, ONES, 3, 3, [((3, 1), side) for side in sides(HALL)])


if __name__ == "__main__":
    unittest.main()
