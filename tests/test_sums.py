"""Points [2], [3], [4], [10] and [23]: sizes at heights, and the volume under the roof."""

import copy
import unittest
from fractions import Fraction

from roofridges.coverings import strip_volume
from roofridges.cuts import cut
from roofridges.fronts import fronts
from roofridges.levels import levels, strips
from roofridges.ridges import highest
from roofridges.sums import size_at, volume
from roofridges.yards import size
from tests.helpers import (
    BIG, GREAT, HUGE, PACES, RING, SHAPES, SQUARE, VOID, bringings, drawn, heights_between, meeting_heights, some_yards, told,
    worth)

ONES = (1, 1, 1, 1)
NOUGHT = (0, 1)
HALL = drawn([0, 10], [0, 6], ["#"])
TWO_ROOMS = drawn([0, 6, 8, 14], [0, 2, 4, 6], ["#.#", "###", "#.#"])


def cases():
    for place, yard in enumerate(list(SHAPES.values()) + some_yards(111, 16, 6) + list(GREAT.values())[1:3]):
        yield yard, PACES[place % len(PACES)]


def worth_at(yard, paces, height):
    return Fraction(*size_at(yard, paces, told(height)))


def expected_volume(yard, paces):
    """The sum over the stretches between neighbouring meetings by three sizes within each; so quadratics are summed."""
    heights = meeting_heights(paces, fronts(yard))
    total = Fraction(0)
    for low, high in zip(heights, heights[1:]):
        first, middle, last = [worth_at(yard, paces, low + (high - low) * part / 4) for part in (1, 2, 3)]
        total += (high - low) * (2 * first - middle + 2 * last) / 3
    return total


class SizeAtTest(unittest.TestCase):
    def test_hall(self):
        for height, expected in [(0, 60), (1, 32), (Fraction(1, 2), 45), (Fraction(5, 2), 5), (3, 0), (4, 0), (BIG, 0)]:
            self.assertEqual(size_at(HALL, ONES, told(height)), told(expected))
        self.assertEqual(size_at(HALL, (1, 2, 3, 4), (1, 2)), (24, 1))

    def test_at_nought_the_yard_s_own(self):
        for yard, paces in cases():
            self.assertEqual(size_at(yard, paces, NOUGHT), size(yard))

    def test_at_each_height_that_of_the_cut(self):
        for yard, paces in cases():
            for height in heights_between(meeting_heights(paces, fronts(yard)), [Fraction(2, 5)]):
                left = cut(yard, paces, told(height))
                xs, ys = worth(left[0]), worth(left[1])
                expected = sum((xs[across + 1] - xs[across]) * (ys[up + 1] - ys[up])
                               for up, row in enumerate(left[2]) for across, sign in enumerate(row) if sign == "#")
                self.assertEqual(size_at(yard, paces, told(height)), told(expected))

    def test_beyond_the_last_level_nought(self):
        for yard, paces in cases():
            if yard != VOID:
                last = Fraction(*levels(yard, paces)[-1][0])
                self.assertEqual([size_at(yard, paces, told(height)) for height in (last, last + 1, last * 7)], [NOUGHT] * 3)
                self.assertGreater(worth_at(yard, paces, last * Fraction(99, 100)), 0)
        self.assertEqual(size_at(VOID, ONES, NOUGHT), NOUGHT)


class VolumeTest(unittest.TestCase):
    def test_void_yard(self):
        self.assertEqual(volume(VOID, (1, 2, 3, 4)), NOUGHT)

    def test_roofs_with_a_known_volume(self):
        self.assertEqual(volume(HALL, ONES), (72, 1))
        # A third of the size times the height.
        self.assertEqual(volume(SQUARE, ONES), (1, 6))
        self.assertEqual(volume(drawn([0, 4], [0, 6], ["#"]), (1, 2, 3, 4)), (8, 1))
        self.assertEqual(volume(drawn([Fraction(1, 3), Fraction(5, 6)], [0, Fraction(1, 2)], ["#"]), ONES), (1, 48))
        # A tent of 10 by 1 between two halves of a pyramid, four times.
        ring = drawn([0, 1, 10, 11], [0, 1, 10, 11], ["###", "#.#", "###"])
        self.assertEqual(volume(ring, ONES), told(Fraction(10, 4) * 4))
        self.assertEqual(volume(RING, ONES), (2, 1))

    def test_by_sizes_within_the_stretches_between_meetings(self):
        for yard, paces in cases():
            self.assertEqual(volume(yard, paces), told(expected_volume(yard, paces)))

    def test_by_the_sum_of_the_document(self):
        for yard, paces in cases():
            heights = [Fraction(*level[0]) for level in levels(yard, paces)]
            total = Fraction(0)
            for low, high in zip(heights, heights[1:]):
                worths = [worth_at(yard, paces, height) for height in (low, (low + high) / 2, high)]
                total += (high - low) / 6 * (worths[0] + 4 * worths[1] + worths[2])
            self.assertEqual(volume(yard, paces), told(total))

    def test_by_the_strips(self):
        for yard, paces in cases():
            total = sum((Fraction(*strip_volume(paces, strip)) for strip in strips(yard, paces)), Fraction(0))
            self.assertEqual(volume(yard, paces), told(total))

    def test_between_sums_of_lesser_and_of_greater_sizes(self):
        for yard in (HALL, TWO_ROOMS, SHAPES["wide ring"], SHAPES["zed"]):
            for paces in PACES[:3]:
                top = Fraction(*highest(yard, paces)[0])
                sizes = [worth_at(yard, paces, top * part / 12) for part in range(13)]
                self.assertLess(sum(sizes[1:]) * top / 12, Fraction(*volume(yard, paces)))
                self.assertGreater(sum(sizes[:-1]) * top / 12, Fraction(*volume(yard, paces)))

    def test_sixty_figures(self):
        for paces in PACES:
            self.assertEqual(volume(HUGE, paces), told(expected_volume(HUGE, paces)))
        four = drawn([Fraction(k * BIG, BIG - 7 - k) for k in range(8)], [Fraction(-BIG + k, 7 + k) for k in range(8)],
                     ["#######", "#.#.#.#", "#######", "#.###.#", "###.###", ".##.##.", "#######"])
        self.assertEqual(volume(four, (1, 2, 3, 4)), told(expected_volume(four, (1, 2, 3, 4))))

    def test_brought_elsewhere(self):
        for yard, paces in cases():
            for brought in bringings(yard, paces):
                as_great = brought.by[0] * brought.by[1] * brought.height_by
                self.assertEqual(volume(brought.yard, brought.paces), told(Fraction(*volume(yard, paces)) * as_great))
                for height in (Fraction(1, 9), Fraction(4, 7)):
                    as_great = brought.by[0] * brought.by[1]
                    self.assertEqual(size_at(brought.yard, brought.paces, brought.height(told(height))),
                                     told(worth_at(yard, paces, height) * as_great))

    def test_what_is_handed_in_stays(self):
        yard, paces = copy.deepcopy(TWO_ROOMS), (1, 2, 3, 4)
        before = copy.deepcopy((yard, paces))
        self.assertEqual(volume(yard, paces), volume(yard, paces))
        self.assertEqual(size_at(yard, paces, (1, 3)), size_at(yard, paces, (1, 3)))
        self.assertEqual((yard, paces), before)


if __name__ == "__main__":
    unittest.main()
