"""Points [2], [3], [6] and [10]: yards and paces moved, turned, mirrored, stretched."""

import copy
import unittest
from fractions import Fraction

from roofridges.moves import mirrored, mirrored_paces, moved, stretched, turned, turned_paces
from roofridges.yards import is_yard, lies, size
from tests.helpers import BIG, GREAT, SHAPES, VOID, all_yards, drawn, on_grid, points_of, some_yards, told, whole

HALF, THIRD = Fraction(1, 2), Fraction(1, 3)
STEPS = [
    (Fraction(0), Fraction(0)), (Fraction(3), Fraction(-2)), (-HALF, THIRD), (Fraction(BIG, BIG - 1), Fraction(-BIG)),
    (Fraction(1, BIG), Fraction(0)),
]
STRETCHES = [
    (Fraction(1), Fraction(1)), (Fraction(3), Fraction(2)), (HALF, Fraction(7, 3)), (THIRD, THIRD),
    (Fraction(BIG, BIG - 1), Fraction(1, BIG)),
]
ELL = drawn([0, 1, 3], [0, 2, 5], ["#.", "##"])


class MovesTest(unittest.TestCase):
    def check_lies(self, yard, brought, way):
        """Each point, brought by this way, lies as it lay."""
        self.assertIs(is_yard(brought), True)
        for x, y in points_of(yard):
            at_x, at_y = way(x, y)
            if lies(brought, told(at_x), told(at_y)) != lies(yard, told(x), told(y)):
                self.fail((yard, x, y))

    def test_moved(self):
        self.assertEqual(moved(ELL, (-1, 2), (1, 3)), (
            ((-1, 2), (1, 2), (5, 2)), ((1, 3), (7, 3), (16, 3)), ("#.", "##")))
        self.assertEqual(moved(ELL, (5, 1), (-7, 1)), (whole(5, 6, 8), whole(-7, -5, -2), ("#.", "##")))
        for yard in all_yards():
            for x, y in STEPS[1:4:2] if yard in GREAT.values() else STEPS:
                brought = moved(yard, told(x), told(y))
                self.assertIs(is_yard(brought), True)
                self.assertEqual(size(brought), size(yard))
                self.assertEqual(moved(brought, told(-x), told(-y)), yard)

    def test_turned(self):
        self.assertEqual(turned(ELL), (whole(-5, -2, 0), whole(0, 1, 3), ("##", "#.")))
        self.assertEqual(turned(on_grid(["###", "#.."])), (whole(-2, -1, 0), whole(0, 1, 3), ("##", ".#")))
        for yard in all_yards():
            brought = turned(yard)
            self.assertIs(is_yard(brought), True)
            self.assertEqual(size(brought), size(yard))
            self.assertEqual(turned(turned(turned(brought))), yard)

    def test_mirrored(self):
        self.assertEqual(mirrored(ELL), (whole(-3, -1, 0), whole(0, 2, 5), (".#", "##")))
        for yard in all_yards():
            brought = mirrored(yard)
            self.assertIs(is_yard(brought), True)
            self.assertEqual(size(brought), size(yard))
            self.assertEqual(mirrored(brought), yard)
            # Turned to the left and mirrored is mirrored and turned to the right.
            self.assertEqual(mirrored(turned(yard)), turned(turned(turned(brought))))

    def test_stretched(self):
        self.assertEqual(stretched(ELL, (1, 2), (4, 3)), (
            ((0, 1), (1, 2), (3, 2)), ((0, 1), (8, 3), (20, 3)), ("#.", "##")))
        for yard in all_yards():
            for by_x, by_y in STRETCHES[1:4:2] if yard in GREAT.values() else STRETCHES:
                brought = stretched(yard, told(by_x), told(by_y))
                self.assertIs(is_yard(brought), True)
                self.assertEqual(Fraction(*size(brought)), Fraction(*size(yard)) * by_x * by_y)
                self.assertEqual(stretched(brought, told(1 / by_x), told(1 / by_y)), yard)

    def test_points_lie_as_they_lay(self):
        for yard in list(SHAPES.values()) + some_yards(11, 12) + some_yards(12, 2, most=12):
            self.check_lies(yard, turned(yard), lambda x, y: (-y, x))
            self.check_lies(yard, mirrored(yard), lambda x, y: (-x, y))
            for by_x, by_y in STEPS[1:4]:
                self.check_lies(yard, moved(yard, told(by_x), told(by_y)), lambda x, y: (x + by_x, y + by_y))
            for by_x, by_y in STRETCHES[1:3]:
                self.check_lies(yard, stretched(yard, told(by_x), told(by_y)), lambda x, y: (x * by_x, y * by_y))

    def test_the_void_yard_stays_void(self):
        for brought in [moved(VOID, (1, 2), (-3, 1)), turned(VOID), mirrored(VOID), stretched(VOID, (5, 2), (1, 3))]:
            self.assertEqual(brought, VOID)

    def test_lines_told_here_with_more_figures(self):
        far = moved(moved(SHAPES["huge"], (BIG, BIG - 1), (1, BIG - 2)), (1, BIG - 4), (-BIG, 2))
        far = stretched(far, (BIG, BIG - 1), (BIG - 2, BIG))
        self.assertTrue(any(bottom > BIG for top, bottom in far[0] + far[1]))
        self.assertIs(is_yard(far), True)
        self.assertEqual(turned(turned(turned(turned(far)))), far)

    def test_turned_paces(self):
        told_paces = turned_paces((1, 2, 3, 4))
        self.assertEqual(told_paces, (4, 1, 2, 3))
        self.assertIsInstance(told_paces, tuple)
        self.assertEqual(turned_paces((9, 1, 5, 7)), (7, 9, 1, 5))
        self.assertEqual(turned_paces(turned_paces(turned_paces(turned_paces((5, 6, 7, 8))))), (5, 6, 7, 8))

    def test_mirrored_paces(self):
        told_paces = mirrored_paces((1, 2, 3, 4))
        self.assertEqual(told_paces, (3, 2, 1, 4))
        self.assertIsInstance(told_paces, tuple)
        self.assertEqual(mirrored_paces(mirrored_paces((9, 1, 5, 7))), (9, 1, 5, 7))

    def test_what_is_handed_in_stays(self):
        yard, paces = SHAPES["zed"], (1, 2, 3, 4)
        before = copy.deepcopy((yard, paces))
        moved(yard, (1, 2), (1, 3)), turned(yard), mirrored(yard), stretched(yard, (1, 2), (3, 1))
        turned_paces(paces), mirrored_paces(paces)
        self.assertEqual((yard, paces), before)


if __name__ == "__main__":
    unittest.main()
