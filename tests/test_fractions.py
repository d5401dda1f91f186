"""Points [2], [3] and [5]: numbers."""

import unittest
from fractions import Fraction
from itertools import product

from roofridges.errors import NoNumber
from roofridges.fractions import fraction, is_number, minus, over, plus, times, under
from tests.helpers import BIG, told

SOME = [
    (0, 1), (1, 1), (-1, 1), (1, 2), (-1, 2), (2, 3), (-7, 3), (5, 6), (9, 4), (-4, 9), (10, 1), (1, 10),
    (BIG, 1), (-BIG, 1), (1, BIG), (-1, BIG), (BIG, BIG - 1), (BIG - 1, BIG), (-BIG + 1, BIG),
    (2 * 10 ** 58 + 3, 3 * 10 ** 59),
]


def nested(depth, inner):
    thing = inner
    for step in range(depth):
        thing = [thing] if step % 2 else (thing,)
    return thing


class IsNumberTest(unittest.TestCase):
    def test_numbers(self):
        for number in SOME:
            with self.subTest(number=number):
                self.assertIs(is_number(number), True)

    def test_not_in_lowest_terms(self):
        for thing in [(2, 4), (-2, 4), (0, 2), (0, BIG), (3, 3), (6, 4), (-9, 3), (BIG, BIG), (10 ** 59, 10 ** 58)]:
            with self.subTest(thing=thing):
                self.assertIs(is_number(thing), False)

    def test_bottom_of_nought_or_below(self):
        for thing in [(1, 0), (0, 0), (-1, 0), (1, -1), (0, -1), (1, -2), (-1, -2), (BIG, -1)]:
            with self.subTest(thing=thing):
                self.assertIs(is_number(thing), False)

    def test_other_lengths_and_kinds(self):
        things = [
            (), (1,), (1, 2, 3), (1, 1, 1), [1, 2], [0, 1], [], [(1, 2)], ((1, 2),), ((1, 2), 1), (1, (2,)), ([1], 2),
            0, 1, -5, BIG, True, False, None, "", "1/2", "12", "1", ("1", 2), (1, "2"), ("1", "2"), (None, 1), (1, None),
            nested(40, 1), nested(40, None), (nested(38, 1), 1), (1, nested(38, 1)),
        ]
        for thing in things:
            with self.subTest(thing=thing):
                self.assertIs(is_number(thing), False)

    def test_truths_within(self):
        for thing in [(True, 1), (1, True), (True, True), (False, 1), (False, True), (3, True), (True, 2)]:
            with self.subTest(thing=thing):
                self.assertIs(is_number(thing), False)

    def test_small_tuples_by_their_worth(self):
        for top, bottom in product(range(-12, 13), range(-12, 13)):
            with self.subTest(top=top, bottom=bottom):
                expected = bottom > 0 and told(Fraction(top, bottom)) == (top, bottom)
                self.assertIs(is_number((top, bottom)), expected)

    def test_a_list_asked_about_stays(self):
        thing = [1, [2, (3,)]]
        is_number(thing)
        self.assertEqual(thing, [1, [2, (3,)]])


class FractionTest(unittest.TestCase):
    def test_the_one_that_the_document_tells(self):
        self.assertEqual(fraction(-3, -6), (1, 2))

    def test_lowest_terms_and_either_sign(self):
        for top, bottom in product(range(-30, 31), range(-30, 31)):
            if bottom != 0:
                with self.subTest(top=top, bottom=bottom):
                    self.assertEqual(fraction(top, bottom), told(Fraction(top, bottom)))

    def test_nought_has_one_form(self):
        for bottom in [1, -1, 7, -7, BIG, -BIG]:
            with self.subTest(bottom=bottom):
                self.assertEqual(fraction(0, bottom), (0, 1))

    def test_sixty_figures(self):
        for top, bottom in product([BIG, -BIG, BIG - 1, 10 ** 59, 6 * 10 ** 58], repeat=2):
            with self.subTest(top=top, bottom=bottom):
                self.assertEqual(fraction(top, bottom), told(Fraction(top, bottom)))

    def test_somewhat_beyond_sixty_figures(self):
        self.assertEqual(fraction(10 ** 80, -2 * 10 ** 79), (-5, 1))

    def test_what_is_told_is_a_number_as_a_tuple(self):
        number = fraction(6, -4)
        self.assertIs(type(number), tuple)
        self.assertIs(is_number(number), True)

    def test_bottom_of_nought_is_refused(self):
        for top in [0, 1, -1, BIG, -BIG]:
            with self.subTest(top=top):
                with self.assertRaises(NoNumber):
                    fraction(top, 0)

    def test_what_is_no_whole_number_is_refused(self):
        for top, bottom in [(True, 2), (1, True), (1, False), ("1", 2), (1, "2"), (None, 1), (1, None), ((1, 2), 1)]:
            with self.subTest(top=top, bottom=bottom):
                with self.assertRaises(NoNumber):
                    fraction(top, bottom)


class ReckoningTest(unittest.TestCase):
    def check(self, ours, theirs):
        for one, other in product(SOME, repeat=2):
            with self.subTest(one=one, other=other):
                self.assertEqual(ours(one, other), told(theirs(Fraction(*one), Fraction(*other))))

    def test_plus(self):
        self.assertEqual(plus((1, 2), (1, 6)), (2, 3))
        self.check(plus, lambda one, other: one + other)

    def test_minus(self):
        self.assertEqual(minus((1, 2), (2, 3)), (-1, 6))
        self.check(minus, lambda one, other: one - other)

    def test_times(self):
        self.assertEqual(times((-2, 3), (9, 4)), (-3, 2))
        self.check(times, lambda one, other: one * other)

    def test_over(self):
        self.assertEqual(over((1, 2), (-3, 4)), (-2, 3))
        for one, other in product(SOME, SOME[1:]):
            with self.subTest(one=one, other=other):
                self.assertEqual(over(one, other), told(Fraction(*one) / Fraction(*other)))

    def test_over_by_nought_is_refused(self):
        for one in SOME:
            with self.subTest(one=one):
                with self.assertRaises(NoNumber):
                    over(one, (0, 1))

    def test_under_is_a_truth(self):
        for one, other in product(SOME, repeat=2):
            with self.subTest(one=one, other=other):
                self.assertIs(under(one, other), Fraction(*one) < Fraction(*other))


if __name__ == "__main__":
    unittest.main()
