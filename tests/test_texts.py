"""Points [2], [3] and [31]: texts of numbers and yards."""

import random
import re
import unittest
from fractions import Fraction
from itertools import product

from roofridges.cuts import cut
from roofridges.errors import NoText, RoofError
from roofridges.moves import stretched
from roofridges.texts import read_number, read_yard, shown_number, shown_yard
from tests.helpers import BIG, GREAT, HUGE, SHAPES, SQUARE, VOID, chess, drawn, on_grid, some_yards, told, whole

NUMBERS = {
    "0": (0, 1), "1": (1, 1), "-1": (-1, 1), "7": (7, 1), "10": (10, 1), "-100": (-100, 1), "7/2": (7, 2), "-7/2": (-7, 2),
    "1/10": (1, 10), "-1/3": (-1, 3), "9" * 60: (BIG, 1), "-" + "9" * 60: (-BIG, 1), "1/" + "9" * 60: (1, BIG),
    "9" * 60 + "/" + "9" * 59 + "8": (BIG, BIG - 1), "-" + "9" * 60 + "/2": (-BIG, 2),
}
NO_NUMBERS = [
    "", " ", "-", "/", "1/", "/2", "-/2", "1/-2", "-1/-2", "1/+2", "+1", "+", "--1", "-0", "00", "01", "-01", "007", "1/02",
    "0/1", "0/2", "-0/2", "1/1", "5/1", "-5/1", "1/0", "0/0", "5/0", "2/4", "6/3", "-6/4", "10/5", "1/2/3", "1//2", "1 /2",
    "1/ 2", " 1", "1 ", "1  ", "- 1", "1.0", "1.", ".5", "1e3", "1_000", "0x1", "a", "one", "1a", "a1", "void", "#", "1;", ";",
    "1,000", "(1, 2)", "1" * 61, "-" + "1" * 61, "1/" + "1" * 61, "1" * 61 + "/2", "0" * 60, "0" * 61, "1" * 5000, "-" * 60,
    "1/2 ", "1-", "1-2", "3/2-", "~", "\\", "True", "None", "1" + "0" * 60,
]


class NumberTextTest(unittest.TestCase):
    def test_shown_and_read(self):
        for text, number in NUMBERS.items():
            self.assertEqual(shown_number(number), text)
            self.assertEqual(read_number(text), number)
            self.assertIsInstance(read_number(text), tuple)

    def test_told_numbers_have_as_many_figures_as_they_have(self):
        for number in [(10 ** 60, 1), (-10 ** 60, 3), (1, 10 ** 60), (7 ** 300, 2 ** 500), (10 ** 3999 + 1, 1)]:
            text = shown_number(number)
            top, slash, bottom = text.partition("/")
            self.assertEqual((int(top), int(bottom or "1")), number)
            with self.assertRaises(NoText):
                read_number(text)

    def test_no_numbers(self):
        for text in NO_NUMBERS:
            with self.subTest(text=text):
                for refusal in (NoText, RoofError):
                    with self.assertRaises(refusal):
                        read_number(text)

    def test_all_short_texts(self):
        for length in range(5):
            for signs in product("-/0129 ", repeat=length):
                text = "".join(signs)
                match = re.fullmatch(r"(0|-?[1-9][0-9]*)(?:/([1-9][0-9]*))?", text)
                bottom = int(match.group(2) or 1) if match else 0
                right = match and (match.group(2) is None or (bottom > 1 and Fraction(int(match.group(1)), bottom).denominator == bottom))
                if right:
                    self.assertEqual(read_number(text), told(Fraction(int(match.group(1)), bottom)))
                else:
                    with self.assertRaises(NoText):
                        read_number(text)

    def test_there_and_back(self):
        dice = random.Random(161)
        for count in range(300):
            number = told(Fraction(dice.randint(-10 ** dice.randint(0, 60) + 1, 10 ** dice.randint(0, 60) - 1 or 1),
                                   dice.randint(1, 10 ** dice.randint(0, 60) - 1 or 1)))
            self.assertEqual(read_number(shown_number(number)), number)


YARDS = {
    "void": VOID,
    "0 1 ; 0 1 ; #": SQUARE,
    "0 3 7/2 ; 0 1 2 ; #. ##": drawn([0, 3, Fraction(7, 2)], [0, 1, 2], ["#.", "##"]),
    "-7/2 1/3 1/2 ; -5/3 0 9/4 ; .# #.": SHAPES["parted touch"],
    "0 1 2 3 ; 0 1 2 3 ; ### #.# ###": SHAPES["ring"],
}
NO_YARDS = [
    "", " ", ";", "; ;", " ; ; ", " ; ;", "; ; ", "; ; #", "0 ; 0 ;", "0 ; 0 ; ", "0 1 ; 0 1 ;", "0 1 ; 0 1 ; ", "0 1 ; 0 1", "0 1 0 1 #",
    "0 1 ; 0 1 ; # ", " 0 1 ; 0 1 ; #", "0  1 ; 0 1 ; #", "0 1  ; 0 1 ; #", "0 1 ;  0 1 ; #", "0 1 ; 0 1 ;  #", "0 1 ; 0  1 ; #",
    "0 1; 0 1; #", "0 1 ;0 1 ;#", "0 1;0 1;#", "0 1 ; 0 1 ; .", "0 1 ; 0 1 ; ##", "0 1 ; 0 1 ; # #", "0 1 ; 0 1 ; # ;", "0 1 ; 0 1 ; ; #",
    "; 0 1 ; 0 1 ; #", "0 1 ; ; 0 1 ; #", "1 0 ; 0 1 ; #", "0 0 ; 0 1 ; #", "0 1 ; 1 0 ; #", "0 1 ; 1 1 ; #", "0 2/2 ; 0 1 ; #",
    "0 1 ; 0 01 ; #", "-0 1 ; 0 1 ; #", "0 1 ; 0 1/1 ; #", "0 1 ; 0 1 ; x", "0 1 ; 0 1 ; O", "0 a ; 0 1 ; #", "0 1 , 0 1 , #",
    "0 1 2 ; 0 1 ; ##", "0 1 2 ; 0 1 ; #.", "0 1 2 ; 0 1 ; .#", "0 1 2 ; 0 1 2 ; ## ##", "0 1 ; 0 1 2 ; # #", "0 1 ; 0 1 2 ; # .",
    "0 1 ; 0 1 2 ; . #", "0 1 2 3 ; 0 1 2 ; ##. .#.", "0 1 2 3 ; 0 1 ; #.", "0 1 2 3 ; 0 1 2 ; #.# ##", "0 1 2 ; 0 1 2 ; ## #.#",
    "0 1 2 ; 0 1 2 ; ##", "0 1 2 ; 0 1 2 ; ## #. #.", "Void", "VOID", "void ", " void", "void void", "void ; void ; void", "none",
    "0 1 ; 0 1 ; #\\", "0 1 | 0 1 | #", "(0 1) ; (0 1) ; #", "0 1 ; 0 1 ; # ; #", "0 1/0 ; 0 1 ; #", "0 1 ; -1/-2 1 ; #",
    "0 " + "1" * 61 + " ; 0 1 ; #", "0 1 ; -" + "1" * 61 + " 1 ; #", "0 1/" + "9" * 61 + " ; 0 1 ; #", "# ; 0 1 ; 0 1", "0 1 ; # ; 0 1",
]


class YardTextTest(unittest.TestCase):
    def test_shown_and_read(self):
        for text, yard in YARDS.items():
            self.assertEqual(shown_yard(yard), text)
            self.assertEqual(read_yard(text), yard)

    def test_there_and_back(self):
        for yard in list(SHAPES.values()) + list(GREAT.values()) + some_yards(162, 24):
            if yard != HUGE:
                self.assertEqual(read_yard(shown_yard(yard)), yard)
        self.assertEqual(read_yard(shown_yard(HUGE)), HUGE)

    def test_no_yards(self):
        for text in NO_YARDS:
            with self.subTest(text=text):
                for refusal in (NoText, RoofError):
                    with self.assertRaises(refusal):
                        read_yard(text)

    def test_numbers_that_are_none(self):
        for text in NO_NUMBERS:
            if text not in ("-1", " 1"):
                with self.subTest(text=text):
                    with self.assertRaises(NoText):
                        read_yard("-5 " + text + " ; 0 1 ; #")
                    with self.assertRaises(NoText):
                        read_yard("0 1 ; -5 " + text + " ; #")

    def test_at_most_twelve_lines_each_way(self):
        twelve = on_grid(chess(11, 11))
        self.assertEqual(len(twelve[0]), 12)
        self.assertEqual(read_yard(shown_yard(twelve)), twelve)
        for rows in (chess(12, 11), chess(11, 12), chess(12, 12), chess(12, 1)):
            if len(rows) > 1:
                yard = on_grid(rows)
                with self.assertRaises(NoText):
                    read_yard(shown_yard(yard))
        long_row = on_grid(["#.#.#.#.#.#.#.#"])
        with self.assertRaises(NoText):
            read_yard(shown_yard(long_row))

    def test_told_yards_have_as_many_figures_as_they_have(self):
        told_cut = cut(HUGE, (9, 1, 4, 7), (1, BIG - 10))
        text = shown_yard(told_cut)
        self.assertGreater(max(len(word) for word in text.split(" ")), 61)
        words = text.split(" ; ")
        self.assertEqual(len(words), 3)
        self.assertEqual([told(Fraction(word)) for word in words[0].split(" ")], list(told_cut[0]))
        self.assertEqual([told(Fraction(word)) for word in words[1].split(" ")], list(told_cut[1]))
        self.assertEqual(tuple(words[2].split(" ")), told_cut[2])
        with self.assertRaises(NoText):
            read_yard(text)

    def test_whatever_is_read_is_shown_so(self):
        dice = random.Random(163)
        read = 0
        for text in list(YARDS) + [shown_yard(stretched(yard, (2, 3), (1, 1))) for yard in list(SHAPES.values())[:-1]]:
            for count in range(60):
                bent = list(text)
                place = dice.randrange(len(bent))
                bent[place:place + dice.randint(0, 1)] = dice.choice([[], ["1"], ["0"], [" "], [";"], ["/"], ["-"], ["#"], ["."]])
                bent = "".join(bent)
                try:
                    yard = read_yard(bent)
                except NoText:
                    continue
                read += 1
                self.assertEqual(shown_yard(yard), bent)
        self.assertGreater(read, 100)

    def test_lines(self):
        self.assertEqual(read_yard("-3 -1 ; 5 8 ; #"), (whole(-3, -1), whole(5, 8), ("#",)))


if __name__ == "__main__":
    unittest.main()
