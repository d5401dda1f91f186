"""The refusals, as the interface tells them."""

import unittest

from roofridges.errors import NoName, NoNumber, NoPoint, NoRow, NoText, NoYard, RoofError

REFUSALS = [NoNumber, NoYard, NoPoint, NoText, NoRow, NoName]


class RefusalsTest(unittest.TestCase):
    def test_each_is_made_of_one_text(self):
        for refusal in REFUSALS + [RoofError]:
            with self.subTest(refusal=refusal.__name__):
                self.assertEqual(str(refusal("some words")), "some words")

    def test_each_is_taken_by_roof_error_and_value_error(self):
        for refusal in REFUSALS:
            for taker in (refusal, RoofError, ValueError):
                with self.subTest(refusal=refusal.__name__, taker=taker.__name__):
                    with self.assertRaises(taker):
                        raise refusal("some words")

    def test_none_is_taken_by_another(self):
        for refusal in REFUSALS:
            for other in REFUSALS:
                if other is not refusal:
                    with self.subTest(refusal=refusal.__name__, other=other.__name__):
                        self.assertFalse(issubclass(refusal, other))
            self.assertFalse(issubclass(RoofError, refusal))

    def test_roof_error_is_a_value_error(self):
        self.assertTrue(issubclass(RoofError, ValueError))
        self.assertIsNot(RoofError, ValueError)


if __name__ == "__main__":
    unittest.main()
