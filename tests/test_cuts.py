"""Points [2], [3], [4], [6], [10], [18] and [19]: cuts, and yards grown back."""

import copy
import random
import unittest
from fractions import Fraction
from itertools import product

from roofridges.cuts import back, cut
from roofridges.fronts import fronts
from roofridges.heights import height
from roofridges.moves import mirrored, mirrored_paces, moved, stretched, turned, turned_paces
from roofridges.pieces import holes, pieces
from roofridges.sets import both, either, within
from roofridges.yards import is_yard, lies, size
from tests.helpers import (
    BIG, GREAT, HUGE, PACES, RING, SHAPES, SQUARE, VOID, cells_outside, drawn, middles, on_grid, points_of, some_yards,
    told, whole, worth)

ONES = (1, 1, 1, 1)
NOUGHT = (0, 1)
HALF = Fraction(1, 2)
HALL = drawn([0, 10], [0, 6], ["#"])
ELL = drawn([0, 4, 10], [0, 4, 10], ["#.", "##"])
TWO_ROOMS = drawn([0, 6, 8, 14], [0, 2, 4, 6], ["#.#", "###", "#.#"])


def yards():
    return list(SHAPES.values()) + some_yards(61, 20) + list(GREAT.values())[:3]


def heights_for(yard, paces, dice):
    """Heights for cuts: nought, low ones, and those over some middles of cells, where something often changes."""
    found = {Fraction(0), Fraction(1, 7), HALF}
    inner = [(x, y) for x, y in product(middles(worth(yard[0]))[1:-1], middles(worth(yard[1]))[1:-1])]
    for x, y in dice.sample(inner, min(3, len(inner))):
        found.add(Fraction(*height(yard, paces, told(x), told(y))))
        found.add(Fraction(*height(yard, paces, told(x), told(y))) / 3)
    return sorted(found)


def cases(seed):
    dice = random.Random(seed)
    for place, yard in enumerate(yards()):
        paces = PACES[place % len(PACES)]
        yield yard, paces, heights_for(yard, paces, dice)


def covered(boxes, x, y):
    return any(x1 < x < x2 and y1 < y < y2 for x1, x2, y1, y2 in boxes)


def expected_cut(yard, paces, worth_of_it):
    """What no cell outside, nor what lies beyond the lines, takes away."""
    if yard == VOID:
        return VOID
    east, north, west, south = [pace * worth_of_it for pace in paces]
    taken = [(x1 - west, x2 + east, y1 - south, y2 + north) for x1, x2, y1, y2 in cells_outside(yard)]
    xs, ys = worth(yard[0]), worth(yard[1])
    low_x, high_x, low_y, high_y = xs[0] + east, xs[-1] - west, ys[0] + north, ys[-1] - south
    across = sorted({low_x, high_x} | {line for box in taken for line in box[:2]})
    up = sorted({low_y, high_y} | {line for box in taken for line in box[2:]})

    def sign(x, y):
        kept = low_x < x < high_x and low_y < y < high_y and not covered(taken, x, y)
        return "#" if kept else "."
    return drawn(across, up, ["".join(sign(x, y) for x in middles(across)[1:-1]) for y in middles(up)[1:-1]])


def expected_back(yard, paces, worth_of_it):
    """The boxes about all cells, together."""
    east, north, west, south = [pace * worth_of_it for pace in paces]
    xs, ys = worth(yard[0]), worth(yard[1])
    boxes = [(xs[across] - east, xs[across + 1] + west, ys[up] - north, ys[up + 1] + south)
             for up, row in enumerate(yard[2]) for across, sign in enumerate(row) if sign == "#"]
    across = sorted({line for box in boxes for line in box[:2]})
    up = sorted({line for box in boxes for line in box[2:]})
    return drawn(across, up, ["".join("#" if covered(boxes, x, y) else "." for x in middles(across)[1:-1])
                              for y in middles(up)[1:-1]])


class CutTest(unittest.TestCase):
    def test_at_nought_it_is_the_yard_itself(self):
        for yard in yards():
            for paces in PACES[:3]:
                self.assertEqual(cut(yard, paces, NOUGHT), yard)

    def test_void_yard(self):
        for number in (NOUGHT, (1, 2), (BIG, 1)):
            self.assertEqual(cut(VOID, (1, 2, 3, 4), number), VOID)

    def test_hall(self):
        self.assertEqual(cut(HALL, ONES, (1, 1)), (whole(1, 9), whole(1, 5), ("#",)))
        self.assertEqual(cut(HALL, (1, 2, 3, 4), (1, 2)), (((1, 2), (17, 2)), whole(1, 4), ("#",)))
        self.assertEqual(cut(HALL, ONES, (3, 1)), VOID)
        self.assertEqual(cut(HALL, ONES, (29, 10)), (((29, 10), (71, 10)), ((29, 10), (31, 10)), ("#",)))
        self.assertEqual(cut(HALL, ONES, (BIG, 1)), VOID)

    def test_corner_in(self):
        self.assertEqual(cut(ELL, ONES, (1, 1)), (whole(1, 3, 9), whole(1, 5, 9), ("#.", "##")))
        self.assertEqual(cut(ELL, (1, 3, 2, 1), (1, 1)), (whole(1, 2, 8), whole(3, 7, 9), ("#.", "##")))
        self.assertEqual(cut(ELL, ONES, (2, 1)), (whole(2, 8), whole(6, 8), ("#",)))

    def test_falls_into_pieces(self):
        self.assertEqual(len(pieces(cut(TWO_ROOMS, ONES, (1, 2)))), 1)
        at_one = cut(TWO_ROOMS, ONES, (1, 1))
        self.assertEqual(at_one, (whole(1, 5, 9, 13), whole(1, 5), ("#.#",)))
        self.assertEqual(len(pieces(at_one)), 2)
        self.assertEqual(cut(TWO_ROOMS, ONES, (3, 1)), VOID)
        self.assertEqual(cut(SHAPES["touch"], ONES, (1, 4)), (
            ((1, 4), (3, 4), (5, 4), (7, 4)), ((1, 4), (3, 4), (5, 4), (7, 4)), ("#..", "...", "..#")))

    def test_hole_grows(self):
        ring = drawn([0, 4, 6, 10], [0, 4, 6, 10], ["###", "#.#", "###"])
        self.assertEqual(cut(ring, ONES, (1, 1)), (whole(1, 3, 7, 9), whole(1, 3, 7, 9), ("###", "#.#", "###")))
        self.assertEqual(cut(ring, (1, 2, 1, 1), (1, 1)), (whole(1, 3, 7, 9), whole(2, 3, 8, 9), ("###", "#.#", "###")))
        self.assertEqual(cut(ring, (1, 1, 1, 3), (1, 1)), (whole(1, 3, 7, 9), whole(1, 7), ("#.#",)))
        self.assertEqual(cut(ring, (1, 3, 1, 1), (1, 1)), (whole(1, 3, 7, 9), whole(3, 9), ("#.#",)))

    def test_by_what_cells_outside_take_away(self):
        for yard, paces, heights in cases(62):
            for worth_of_it in heights:
                told_cut = cut(yard, paces, told(worth_of_it))
                self.assertIs(is_yard(told_cut), True)
                self.assertEqual(told_cut, expected_cut(yard, paces, worth_of_it))

    def test_just_the_points_whose_height_is_greater(self):
        dice = random.Random(63)
        for yard, paces, heights in cases(63):
            for worth_of_it in heights:
                told_cut = cut(yard, paces, told(worth_of_it))
                many = points_of(told_cut) + points_of(yard)
                for x, y in dice.sample(many, min(20, len(many))):
                    greater = Fraction(*height(yard, paces, told(x), told(y))) > worth_of_it
                    self.assertEqual(lies(told_cut, told(x), told(y)) == "in", greater)

    def test_at_all_points_of_small_yards(self):
        for name, number in [("ell", (1, 3)), ("touch", (1, 8)), ("cross", (1, 3)), ("zed", (2, 3)), ("cup", (1, 4))]:
            yard = SHAPES[name]
            for paces in PACES:
                told_cut = cut(yard, paces, number)
                for x, y in points_of(yard, told_cut):
                    greater = Fraction(*height(yard, paces, told(x), told(y))) > Fraction(*number)
                    self.assertEqual(lies(told_cut, told(x), told(y)) == "in", greater)

    def test_where_nothing_is_left(self):
        for yard in yards():
            for paces in PACES[:2]:
                heights = [Fraction(*height(yard, paces, told(x), told(y))) for x, y in points_of(yard)[::3]]
                top = max(heights)
                self.assertTrue(top == 0 or cut(yard, paces, told(top / 2)) != VOID)
                far = max([abs(line) for lines in yard[:2] for line in worth(lines)], default=Fraction(1))
                self.assertEqual(cut(yard, paces, told(2 * far)), VOID)

    def test_sixty_figures(self):
        for number in [(1, BIG), (BIG - 2, BIG - 1), (BIG, 97)]:
            told_cut = cut(HUGE, (9, 1, 4, 7), number)
            self.assertEqual(told_cut, expected_cut(HUGE, (9, 1, 4, 7), Fraction(*number)))
            self.assertEqual(cut(told_cut, (9, 1, 4, 7), NOUGHT), told_cut)

    def test_no_hole_is_born_and_no_front(self):
        for yard, paces, heights in cases(64):
            counts = [len(holes(cut(yard, paces, told(worth_of_it)))) for worth_of_it in heights]
            self.assertEqual(counts, sorted(counts, reverse=True))
            for worth_of_it, grow in product(heights, (cut, back)):
                brought = grow(yard, paces, told(worth_of_it))
                for facing in range(4):
                    self.assertLessEqual(*[[front[0] for front in fronts(one)].count(facing) for one in (brought, yard)])

    def test_what_two_yards_have_in_common(self):
        many = yards()
        for place, (one, other) in enumerate(zip(many, many[1:] + many[:1])):
            for number in ((1, 7), (1, 2), (3, 2)):
                paces = PACES[place % 5]
                self.assertEqual(cut(both(one, other), paces, number), both(cut(one, paces, number), cut(other, paces, number)))

    def test_moved_turned_mirrored_and_stretched(self):
        for yard, paces, heights in cases(65):
            number = told(heights[1])
            for grow in (cut, back):
                brought = grow(yard, paces, number)
                self.assertEqual(grow(moved(yard, (1, 3), (-5, 2)), paces, number), moved(brought, (1, 3), (-5, 2)))
                self.assertEqual(grow(turned(yard), turned_paces(paces), number), turned(brought))
                self.assertEqual(grow(mirrored(yard), mirrored_paces(paces), number), mirrored(brought))
                self.assertEqual(grow(stretched(yard, (5, 2), (5, 2)), paces, told(heights[1] * Fraction(5, 2))),
                                 stretched(brought, (5, 2), (5, 2)))
        for yard in yards():
            self.assertEqual(cut(stretched(yard, (3, 1), (2, 1)), (3, 4, 6, 8), (1, 5)),
                             stretched(cut(yard, (1, 2, 2, 4), (1, 5)), (3, 1), (2, 1)))


class BackTest(unittest.TestCase):
    def test_by_nought_it_is_the_yard_itself(self):
        for yard in yards():
            for paces in PACES[:3]:
                self.assertEqual(back(yard, paces, NOUGHT), yard)

    def test_the_void_yard_stays_void(self):
        for number in (NOUGHT, (1, 2), (BIG, 1)):
            self.assertEqual(back(VOID, (1, 2, 3, 4), number), VOID)

    def test_hall(self):
        self.assertEqual(back(HALL, ONES, (1, 1)), (whole(-1, 11), whole(-1, 7), ("#",)))
        self.assertEqual(back(HALL, (1, 2, 3, 4), (1, 2)), (((-1, 2), (23, 2)), whole(-1, 8), ("#",)))

    def test_corner_in(self):
        self.assertEqual(back(ELL, (1, 2, 3, 4), (1, 2)), (((-1, 2), (11, 2), (23, 2)), whole(-1, 3, 12), ("#.", "##")))

    def test_grown_together_over_gaps_and_holes(self):
        apart = on_grid(["#.#"])
        self.assertEqual(back(apart, ONES, (1, 4)), (((-1, 4), (5, 4), (7, 4), (13, 4)), ((-1, 4), (5, 4)), ("#.#",)))
        self.assertEqual(back(apart, ONES, (1, 2)), (((-1, 2), (7, 2)), ((-1, 2), (3, 2)), ("#",)))
        self.assertEqual(back(apart, (3, 1, 1, 1), (1, 4)), (((-3, 4), (13, 4)), ((-1, 4), (5, 4)), ("#",)))
        self.assertEqual(back(RING, ONES, (1, 2)), (((-1, 2), (7, 2)), ((-1, 2), (7, 2)), ("#",)))
        self.assertEqual(back(RING, ONES, (1, 4)), (
            ((-1, 4), (5, 4), (7, 4), (13, 4)), ((-1, 4), (5, 4), (7, 4), (13, 4)), ("###", "#.#", "###")))
        self.assertEqual(back(SHAPES["touch"], ONES, (1, 2)), (
            ((-1, 2), (1, 2), (3, 2), (5, 2)), ((-1, 2), (1, 2), (3, 2), (5, 2)), ("##.", "###", ".##")))
        self.assertEqual(back(SHAPES["apart"], ONES, (5, 1)), (whole(-5, 8), whole(-5, 8), ("#",)))

    def test_by_the_boxes_about_all_cells(self):
        for yard, paces, heights in cases(71):
            for worth_of_it in heights:
                grown = back(yard, paces, told(worth_of_it))
                self.assertIs(is_yard(grown), True)
                self.assertEqual(grown, expected_back(yard, paces, worth_of_it))

    def test_either_of_two_yards(self):
        many = yards()
        for place, (one, other) in enumerate(zip(many, many[1:] + many[:1])):
            paces = PACES[place % 5]
            self.assertEqual(back(either(one, other), paces, (2, 7)), either(back(one, paces, (2, 7)), back(other, paces, (2, 7))))


class CutsAndBacksTest(unittest.TestCase):
    def test_a_cut_of_a_cut(self):
        for yard, paces, heights in cases(81):
            for first, second in product(heights[::2], heights[1::2]):
                self.assertEqual(cut(cut(yard, paces, told(first)), paces, told(second)), cut(yard, paces, told(first + second)))

    def test_grown_back_twice(self):
        for yard, paces, heights in cases(82):
            for first, second in product(heights[::2], heights[1::2]):
                self.assertEqual(back(back(yard, paces, told(first)), paces, told(second)), back(yard, paces, told(first + second)))

    def test_grown_back_behind_its_cut(self):
        for yard, paces, heights in cases(83):
            for worth_of_it in heights:
                number = told(worth_of_it)
                told_cut = cut(yard, paces, number)
                grown = back(told_cut, paces, number)
                self.assertIs(within(grown, yard), True)
                self.assertEqual(cut(grown, paces, number), told_cut)
                self.assertLessEqual(Fraction(*size(told_cut)), Fraction(*size(grown)))

    def test_grown_back_and_then_cut(self):
        for yard, paces, heights in cases(84):
            for worth_of_it in heights:
                number = told(worth_of_it)
                self.assertIs(within(yard, cut(back(yard, paces, number), paces, number)), True)
        self.assertEqual(cut(back(SQUARE, (1, 2, 3, 4), (5, 3)), (1, 2, 3, 4), (5, 3)), SQUARE)

    def test_heights_by_the_cut(self):
        dice = random.Random(85)
        for yard, paces, heights in cases(85):
            for worth_of_it in heights[1:3]:
                told_cut = cut(yard, paces, told(worth_of_it))
                many = [(x, y) for x, y in points_of(told_cut) if lies(told_cut, told(x), told(y)) == "in"]
                for x, y in dice.sample(many, min(8, len(many))):
                    whole_height = Fraction(*height(yard, paces, told(x), told(y)))
                    self.assertEqual(height(told_cut, paces, told(x), told(y)), told(whole_height - worth_of_it))

    def test_what_is_handed_in_stays(self):
        yard, paces, number = copy.deepcopy(ELL), (1, 2, 3, 4), (1, 2)
        before = copy.deepcopy((yard, paces, number))
        for grow in (cut, back):
            self.assertEqual(grow(yard, paces, number), grow(yard, paces, number))
        self.assertEqual((yard, paces, number), before)


if __name__ == "__main__":
    unittest.main()
