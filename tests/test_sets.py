"""Points [2], [3], [6] and [9]: two yards together."""

import copy
import random
import unittest
from fractions import Fraction
from itertools import product

from roofridges.moves import moved
from roofridges.sets import both, either, less, within
from roofridges.yards import is_yard, made, size
from tests.helpers import (
    BIG, GREAT, HUGE, PARTED, RING, SHAPES, SQUARE, VOID, drawn, looker, middles, on_grid, some_yard, some_yards, told,
    whole, worth)

HOLE = drawn([1, 2], [1, 2], ["#"])


def pairs():
    """Pairs of yards with lines alike, partly alike and all unlike, the void yard and each yard itself among them."""
    shapes = list(SHAPES.values())
    found = list(product(shapes, repeat=2))
    dice = random.Random(5)
    for kind in ["whole", "parted", "huge"]:
        found += [(some_yard(dice, 6, kind), some_yard(dice, 6, kind)) for count in range(25)]
    great = list(GREAT.values()) + some_yards(6, 4, most=12)
    return found + list(zip(great, great[1:] + great[:1]))


class SetsTest(unittest.TestCase):
    def check(self, one, other, in_both, in_either, in_first, in_second):
        """All that is told of two yards, either of them first."""
        with self.subTest(one=one, other=other):
            self.assertEqual([both(one, other), both(other, one)], [in_both, in_both])
            self.assertEqual([either(one, other), either(other, one)], [in_either, in_either])
            self.assertEqual([less(one, other), less(other, one)], [in_first, in_second])

    def test_lines_all_unlike(self):
        one = drawn([0, 4], [0, 4], ["#"])
        other = drawn([2, 6], [1, 7], ["#"])
        self.check(
            one, other,
            (whole(2, 4), whole(1, 4), ("#",)),
            (whole(0, 2, 4, 6), whole(0, 1, 4, 7), ("##.", "###", ".##")),
            (whole(0, 2, 4), whole(0, 1, 4), ("##", "#.")),
            (whole(2, 4, 6), whole(1, 4, 7), (".#", "##")))

    def test_lines_partly_alike(self):
        one = drawn([0, 2, 3], [0, 1, 5], ["#.", "##"])
        other = drawn([2, 3, 4], [0, 1, 5], ["##", ".#"])
        self.check(one, other, VOID, (whole(0, 4), whole(0, 5), ("#",)), one, other)
        third = drawn([2, 3, 7], [1, 5, 6], ["##", "#."])
        self.check(
            one, third,
            (whole(2, 3), whole(1, 5), ("#",)),
            (whole(0, 2, 3, 7), whole(0, 1, 5, 6), ("#..", "###", ".#.")),
            (whole(0, 2), whole(0, 5), ("#",)),
            (whole(2, 3, 7), whole(1, 5, 6), (".#", "#.")))

    def test_lines_alike(self):
        one, other = on_grid(["#.", "##"]), on_grid(["##", ".#"])
        self.check(
            one, other, on_grid(["#.", ".#"]), (whole(0, 2), whole(0, 2), ("#",)),
            (whole(0, 1), whole(1, 2), ("#",)), (whole(1, 2), whole(0, 1), ("#",)))

    def test_parted_lines(self):
        one = drawn([0, Fraction(1, 2)], [Fraction(-1, 3), 1], ["#"])
        other = drawn([Fraction(1, 3), 1], [Fraction(-1, 2), Fraction(1, 3)], ["#"])
        self.check(
            one, other,
            (((1, 3), (1, 2)), ((-1, 3), (1, 3)), ("#",)),
            (((0, 1), (1, 3), (1, 2), (1, 1)), ((-1, 2), (-1, 3), (1, 3), (1, 1)), (".##", "###", "##.")),
            (((0, 1), (1, 3), (1, 2)), ((-1, 3), (1, 3), (1, 1)), ("#.", "##")),
            (((1, 3), (1, 2), (1, 1)), ((-1, 2), (-1, 3), (1, 3)), ("##", ".#")))

    def test_one_within_the_other(self):
        full = drawn([0, 3], [0, 3], ["#"])
        self.check(full, HOLE, HOLE, full, RING, VOID)
        self.check(RING, HOLE, VOID, full, RING, HOLE)
        self.check(full, RING, RING, full, HOLE, VOID)

    def test_a_yard_and_itself(self):
        for yard in list(SHAPES.values()) + list(GREAT.values()):
            self.check(yard, yard, yard, yard, VOID, VOID)

    def test_the_void_yard(self):
        for yard in list(SHAPES.values()) + list(GREAT.values()):
            self.check(yard, VOID, VOID, yard, yard, VOID)

    def test_yards_side_by_side_grow_together(self):
        self.check(SQUARE, moved(SQUARE, (1, 1), (0, 1)), VOID, (whole(0, 2), whole(0, 1), ("#",)), SQUARE,
                   (whole(1, 2), whole(0, 1), ("#",)))
        self.check(SQUARE, moved(SQUARE, (1, 1), (1, 1)), VOID, on_grid(["#.", ".#"]), SQUARE,
                   (whole(1, 2), whole(1, 2), ("#",)))
        self.check(SQUARE, moved(SQUARE, (5, 1), (0, 1)), VOID, (whole(0, 1, 5, 6), whole(0, 1), ("#.#",)), SQUARE,
                   (whole(5, 6), whole(0, 1), ("#",)))

    def test_lines_that_are_no_longer_needed_are_not_told(self):
        one, other = on_grid(["#.#", "###"]), on_grid(["##", "##"])
        self.assertEqual(both(one, other), on_grid(["#.", "##"]))
        self.assertEqual(less(one, other), (whole(2, 3), whole(0, 2), ("#",)))

    def test_within(self):
        full = drawn([0, 3], [0, 3], ["#"])
        for one, other in [(HOLE, full), (RING, full), (full, full), (VOID, VOID), (VOID, full), (HUGE, HUGE), (VOID, HUGE)]:
            with self.subTest(one=one, other=other):
                self.assertIs(within(one, other), True)
        for one, other in [(full, HOLE), (full, RING), (HOLE, RING), (RING, HOLE), (full, VOID), (PARTED, full), (HUGE, full)]:
            with self.subTest(one=one, other=other):
                self.assertIs(within(one, other), False)

    def test_by_the_signs_of_both_in_each_cell_of_all_lines(self):
        for one, other in pairs():
            xs = middles(sorted(set(worth(one[0]) + worth(other[0]))))
            ys = middles(sorted(set(worth(one[1]) + worth(other[1]))))
            yards = [both(one, other), either(one, other), less(one, other)]
            looks = [looker(yard) for yard in [one, other] + yards]
            for yard in yards:
                self.assertIs(is_yard(yard), True)
            for x, y in product(xs, ys):
                first, second, in_both, in_either, in_less = [look(x, y) for look in looks]
                expected = (first and second, first or second, first and not second)
                if (in_both, in_either, in_less) != expected:
                    self.fail((one, other, x, y))

    def test_sizes_and_within_by_less(self):
        for one, other in pairs():
            together = sum(Fraction(*size(yard)) for yard in (both(one, other), either(one, other)))
            self.assertEqual(together, Fraction(*size(one)) + Fraction(*size(other)))
            self.assertIs(within(one, other), less(one, other) == VOID)
            self.assertIs(within(both(one, other), one), True)
            self.assertIs(within(one, either(one, other)), True)
            self.assertEqual(both(less(one, other), other), VOID)
            self.assertEqual(either(less(one, other), both(one, other)), one)

    def test_lines_of_sixty_figures_that_lie_near_one_another(self):
        one = drawn([0, Fraction(BIG - 1, BIG)], [0, 1], ["#"])
        other = drawn([Fraction(BIG - 2, BIG - 1), 1], [0, 1], ["#"])
        between = (told(Fraction(BIG - 2, BIG - 1)), told(Fraction(BIG - 1, BIG)))
        self.assertEqual(both(one, other), (between, whole(0, 1), ("#",)))

    def test_more_than_twelve_lines(self):
        one = on_grid(["#.#.#.#.#.#.#.#.#.#"])
        other = moved(one, (1, 1), (0, 1))
        self.assertEqual(either(one, other), (whole(0, 20), whole(0, 1), ("#",)))
        self.assertEqual(both(one, other), VOID)
        self.assertEqual(less(one, other), one)

    def test_both_yards_stay(self):
        one, other = made([0, 1, 2], [0, 1, 2], ["#.", "##"]), made([0, 2, 3], [1, 2, 3], [".#", "##"])
        before = copy.deepcopy((one, other))
        for told_twice in (both, either, less, within):
            self.assertEqual(told_twice(one, other), told_twice(one, other))
        self.assertEqual((one, other), before)


if __name__ == "__main__":
    unittest.main()
