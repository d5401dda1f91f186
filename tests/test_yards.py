"""Points [2], [3] and [6] to [8]: yards."""

import copy
import unittest
from fractions import Fraction
from itertools import product

from roofridges.errors import NoYard
from roofridges.yards import is_yard, lies, made, size
from tests.helpers import BIG, FAR, RING, VOID, cell_at, grids, whole, worth

WHOLE = (((0, 1), (1, 1), (3, 1)), ((0, 1), (2, 1), (5, 1)), ("#.", "##"))
PARTED = (((-7, 2), (1, 3), (1, 2)), ((-1, BIG), (0, 1), (BIG, 8)), (".#", "#."))


def bent(yard, part, place, thing):
    """The yard with another thing at one place of its xs, ys or rows."""
    parts = [list(one) for one in yard]
    parts[part][place] = thing
    return tuple(tuple(one) for one in parts)


def expected_lies(yard, x, y):
    """By four points so near that no line lies between them and (x, y) but those through it."""
    xs, ys, rows = worth(yard[0]), worth(yard[1]), yard[2]
    near = Fraction(1, 1000)
    around = [cell_at(xs, ys, rows, x + a, y + b) for a in (-near, near) for b in (-near, near)]
    if all(around):
        return "in"
    return "rim" if any(around) else "out"


class IsYardTest(unittest.TestCase):
    def check_not(self, things):
        for thing in things:
            with self.subTest(thing=thing):
                self.assertIs(is_yard(thing), False)

    def test_tidy_yards(self):
        many = whole(*range(20))
        stairs = tuple("#" * (k + 1) + "." * (18 - k) for k in range(19))
        for yard in [WHOLE, PARTED, RING, (whole(-1, 0), whole(5, 9), ("#",)), (many, many, stairs)]:
            with self.subTest(yard=yard):
                self.assertIs(is_yard(yard), True)

    def test_void_yard(self):
        self.assertIs(is_yard(VOID), True)

    def test_things_near_the_void_yard(self):
        self.check_not([
            (), ((),), ((), ()), ((), (), (), ()), [(), (), ()], ([], (), ()), ((), [], ()), ((), (), []),
            ((), (), ("",)), ((), (), ""), ("", (), ()), ((), "", ()), (None, (), ()), ((), (), None), (0, 0, 0),
            (whole(0), (), ()), ((), whole(0), ()), (whole(0), whole(0), ()), (whole(0, 1), (), ()),
            ((), whole(0, 1), ("",)), (whole(0), whole(0, 1), ("",)), (whole(0, 1), whole(0), ()),
            (whole(0, 1), whole(0, 1), (".",)), ((), whole(0, 1, 2), ("", "")),
        ])

    def test_other_plain_things(self):
        self.check_not([None, True, False, 0, 7, "", "void", "abc", "###", [], [WHOLE], (WHOLE,), (1, 2, 3),
                        (True, False, None), ("a", "b", "c"), list(WHOLE), WHOLE + ((),), WHOLE[:2]])

    def test_things_forty_deep(self):
        deep = ()
        for step in range(39):
            deep = [deep] if step % 2 else (deep,)
        self.check_not([deep, (deep, (), ()), ((), deep, ()), ((), (), deep), bent(WHOLE, 2, 0, deep)])

    def test_lines_not_rising_or_like(self):
        for part in (0, 1):
            self.check_not([
                bent(WHOLE, part, 1, (0, 1)), bent(WHOLE, part, 1, (-1, 1)), bent(WHOLE, part, 2, (1, 2)),
                bent(WHOLE, part, 0, (9, 1)), bent(WHOLE, part, 1, WHOLE[part][2]), bent(PARTED, part, 1, PARTED[part][0]),
                bent(PARTED, part, 0, PARTED[part][2]),
            ])

    def test_lines_that_are_no_numbers(self):
        for part in (0, 1):
            for place in (0, 1, 2):
                top = WHOLE[part][place][0]
                self.check_not([bent(WHOLE, part, place, thing) for thing in [
                    (2 * top, 2), (-top, -1), (top, 0), (top, True), [top, 1], top, None, str(top), (top,), (top, 1, 1), ()]])
            self.check_not([bent(WHOLE, part, 0, (False, 1))])
        self.check_not([bent(WHOLE, 0, 1, (True, 1)), bent(WHOLE, 0, 1, True), bent(PARTED, 0, 2, (2, 4))])

    def test_lists_for_tuples(self):
        for part in (0, 1, 2):
            parts = list(WHOLE)
            parts[part] = list(parts[part])
            self.check_not([tuple(parts)])
        self.check_not([list(WHOLE), bent(WHOLE, 2, 0, ["#", "."]), bent(WHOLE, 2, 0, ("#", "."))])

    def test_parts_of_other_kinds(self):
        for part in (0, 1, 2):
            for thing in [None, True, False, 0, 3, "", "#.", "###"]:
                parts = list(WHOLE)
                parts[part] = thing
                self.check_not([tuple(parts)])

    def test_a_line_a_row_or_a_sign_more_or_less(self):
        xs, ys, rows = WHOLE
        self.check_not([
            (xs, ys, rows + ("#.",)), (xs, ys, rows[:1]), (xs, ys, rows[1:]), (xs, ys, ()),
            (xs + whole(9), ys, rows), (xs[:2], ys, rows), (xs, ys + whole(9), rows), (xs, ys[:2], rows),
            (xs, ys, ("#.#", "##")), (xs, ys, ("#.", "##.")), (xs, ys, ("#", "##")), (xs, ys, ("#.", "#")),
            (xs, ys, ("", "##")), (xs, ys, ("#.", "")),
        ])

    def test_another_sign_or_no_text(self):
        for sign in ["x", " ", "0", "~", ",", "-"]:
            self.check_not([bent(WHOLE, 2, 0, "#" + sign), bent(WHOLE, 2, 0, sign + "."), bent(WHOLE, 2, 1, sign + "#")])
        for thing in [None, True, 0, 12, ()]:
            self.check_not([bent(WHOLE, 2, 0, thing), bent(WHOLE, 2, 1, thing)])

    def test_neighbouring_rows_or_columns_alike(self):
        three = whole(0, 1, 2)
        four = whole(0, 1, 2, 3)
        self.check_not([
            (three, three, ("##", "##")), (three, three, ("#.", "#.")), (three, three, ("##", "..")),
            (three, four, ("#.", "#.", "##")), (three, four, ("#.", "##", "##")), (four, three, ("##.", "..#")),
            (four, three, ("#..", "###")), (four, three, (".##", "###")), (whole(0, 1), three, ("#", "#")),
        ])
        self.assertIs(is_yard((three, four, ("#.", "##", "#."))), True)

    def test_edge_row_or_column_without_cells(self):
        three = whole(0, 1, 2)
        four = whole(0, 1, 2, 3)
        self.check_not([
            (three, four, ("..", "#.", "##")), (three, four, ("#.", "##", "..")),
            (four, three, (".#.", ".##")), (four, three, ("#..", "##.")), (three, three, ("..", "##")),
            (three, three, ("#.", "..")), (three, three, ("..", "..")),
        ])
        self.assertIs(is_yard((three, four, ("#.", "..", "##"))), True)
        self.assertIs(is_yard((four, three, ("#.#", "#.."))), True)

    def test_small_grids_by_the_words_of_the_document(self):
        for wide, high in [(1, 1), (1, 3), (2, 2), (3, 2), (2, 3)]:
            for rows in grids(wide, high):
                columns = ["".join(column) for column in zip(*rows)]
                tidy = all(
                    all(one != other for one, other in zip(bands, bands[1:])) and "#" in bands[0] and "#" in bands[-1]
                    for bands in (rows, columns))
                with self.subTest(rows=rows):
                    thing = (whole(*range(wide + 1)), whole(*range(high + 1)), tuple(rows))
                    self.assertIs(is_yard(thing), tidy)

    def test_a_thing_asked_about_stays(self):
        thing = [[(0, 1), (1, 1)], [(0, 1), (1, 1)], ["#"]]
        before = copy.deepcopy(thing)
        is_yard(thing)
        is_yard(tuple(thing))
        self.assertEqual(thing, before)


class MadeTest(unittest.TestCase):
    def check_refused(self, xs, ys, rows):
        before = copy.deepcopy((xs, ys, rows))
        with self.subTest(xs=xs, ys=ys, rows=rows):
            with self.assertRaises(NoYard):
                made(xs, ys, rows)
            self.assertEqual((xs, ys, rows), before)

    def test_tidy_rows(self):
        self.assertEqual(made([0, 1, 3], [0, 2, 5], ["#.", "##"]), WHOLE)
        self.assertEqual(made([0, 1, 2, 3], [0, 1, 2, 3], ["###", "#.#", "###"]), RING)

    def test_rows_that_are_not_tidy(self):
        self.assertEqual(
            made([-2, 0, 1, 2, 3, 8], [0, 1, 2, 4, 5, 7, 9], [".....", ".#...", ".#...", ".###.", ".###.", "....."]),
            (whole(0, 1, 3), whole(1, 4, 7), ("#.", "##")))
        self.assertEqual(made([0, 1, 2], [0, 1, 2], ["##", "##"]), (whole(0, 2), whole(0, 2), ("#",)))
        self.assertEqual(made([0, 1, 2, 3], [0, 1], ["#.#"]), (whole(0, 1, 2, 3), whole(0, 1), ("#.#",)))
        self.assertEqual(
            made([0, 1, 2, 3, 4], [0, 1, 2, 3], ["#..#", "....", "#..#"]),
            (whole(0, 1, 3, 4), whole(0, 1, 2, 3), ("#.#", "...", "#.#")))

    def test_all_out(self):
        self.assertEqual(made([0, 1], [0, 1], ["."]), VOID)
        self.assertEqual(made([0, 1, 2, 3], [-5, 0, 5], ["...", "..."]), VOID)

    def test_none_or_one_line(self):
        for few, lines in product(([], [4]), ([], [-3], [0, 1], [0, 1, 2, 3])):
            between = max(len(lines) - 1, 0)
            with self.subTest(few=few, lines=lines):
                self.assertEqual(made(few, lines, [""] * between), VOID)
                self.assertEqual(made(lines, few, []), VOID)

    def test_farthest_lines_and_most_lines(self):
        self.assertEqual(made([-FAR, FAR], [-FAR, FAR], ["#"]), (whole(-FAR, FAR), whole(-FAR, FAR), ("#",)))
        seven = [-FAR, -2, 0, 1, 2, 3, FAR]
        rows = ["#.#.#.", ".#.#.#"] * 3
        self.assertEqual(made(seven, seven, rows), (whole(*seven), whole(*seven), tuple(rows)))

    def test_all_small_grids(self):
        xs, ys = [-1, 0, 2, 5], [0, 3, 4, 8]
        for rows in grids(3, 3):
            with self.subTest(rows=rows):
                yard = made(xs, ys, rows)
                self.assertIs(is_yard(yard), True)
                for across, up in product(range(3), repeat=2):
                    x = Fraction(xs[across] + xs[across + 1], 2)
                    y = Fraction(ys[up] + ys[up + 1], 2)
                    self.assertEqual(cell_at(worth(yard[0]), worth(yard[1]), yard[2], x, y), rows[up][across] == "#")

    def test_what_is_handed_in_stays_and_changes_nothing_behind(self):
        xs, ys, rows = [0, 1, 2, 3], [0, 2, 5], ["#..", "###"]
        yard = made(xs, ys, rows)
        self.assertEqual((xs, ys, rows), ([0, 1, 2, 3], [0, 2, 5], ["#..", "###"]))
        xs[0] = 9
        ys.append(11)
        rows[0] = "..."
        rows.clear()
        self.assertEqual(yard, (whole(0, 1, 3), whole(0, 2, 5), ("#.", "##")))
        self.assertEqual(made([0, 1, 2, 3], [0, 2, 5], ["#..", "###"]), yard)

    def test_lines_too_far_are_refused(self):
        for lines in ([FAR, FAR + 1], [-FAR - 1, 0], [0, FAR + 1], [-FAR - 1, -FAR], [0, 10 ** 59]):
            self.check_refused(lines, [0, 1], ["#"])
            self.check_refused([0, 1], lines, ["#"])
        self.check_refused([FAR + 1], [], [])
        self.check_refused([], [-FAR - 1], [])

    def test_lines_not_rising_are_refused(self):
        for lines in ([0, 0, 1], [0, 1, 1], [0, 2, 1], [1, 0, 2], [2, 1, 0], [0, -1, 5], [5, 5, 5]):
            self.check_refused(lines, [0, 1], ["##"])
            self.check_refused([0, 1], lines, ["#", "#"])
        self.check_refused([0, 0], [0, 1], ["#"])
        self.check_refused([0, 1], [3, 3], ["."])

    def test_lines_that_are_no_whole_numbers_are_refused(self):
        for thing in [True, False, "1", "", None, (1, 1), (1,), (), [1], []]:
            self.check_refused([-4, thing, 5], [0, 1], ["##"])
            self.check_refused([0, 1], [-4, thing, 5], ["#", "#"])
            self.check_refused([thing], [], [])
            self.check_refused([], [thing], [])
        self.check_refused([False, True], [0, 1], ["#"])
        self.check_refused([0, 1], [0, True], ["#"])

    def test_eight_lines_are_refused(self):
        eight = list(range(8))
        self.check_refused(eight, [0, 1], ["#" * 7])
        self.check_refused([0, 1], eight, ["#"] * 7)
        self.check_refused(eight, [], [])
        self.check_refused([], eight, [""] * 7)

    def test_a_row_or_a_sign_more_or_less_is_refused(self):
        for rows in ([], ["#."], ["#.", "##", "#."], ["#.", "#"], ["#", "##"], ["#.", "##."], ["#.#", "##"],
                     ["", "##"], ["#.", ""], ["", ""], ["#.##"]):
            self.check_refused([0, 1, 3], [0, 2, 5], rows)

    def test_other_signs_and_rows_that_are_no_texts_are_refused(self):
        for thing in ["x.", "# ", "#0", "  ", "#~", None, True, 0, 12, ("#", "."), ["#", "."], ("#.",), []]:
            self.check_refused([0, 1, 3], [0, 2, 5], ["#.", thing])
            self.check_refused([0, 1, 3], [0, 2, 5], [thing, "#."])

    def test_other_things_in_the_place_of_a_list_are_refused(self):
        for thing in [(0, 1), None, "01", "", (), True, False, 0, 7]:
            self.check_refused(thing, [0, 1], ["#"])
            self.check_refused([0, 1], thing, ["#"])
            self.check_refused(thing, [], [])
            self.check_refused([], thing, [])
        for thing in [("#",), None, "#", "", (), True, False, 0, 7]:
            self.check_refused([0, 1], [0, 1], thing)
        for thing in [(), None, "", False, 0]:
            self.check_refused([], [], thing)
        deep = []
        for step in range(39):
            deep = (deep,) if step % 2 else [deep]
        self.check_refused(deep, [0, 1], ["#"])
        self.check_refused([0, 1], deep, ["#"])
        self.check_refused([0, 1], [0, 1], deep)

    def test_none_or_one_line_with_other_rows_is_refused(self):
        for few in ([], [4]):
            for rows in ([""], ["#"], ["."], ["", ""]):
                self.check_refused([0, 1], few, rows)
                self.check_refused(few, few, rows)
            for rows in ([], ["#"], ["."], ["", ""], [None]):
                self.check_refused(few, [0, 1], rows)


class SizeTest(unittest.TestCase):
    def test_sizes(self):
        self.assertEqual(size(VOID), (0, 1))
        self.assertEqual(size(WHOLE), (11, 1))
        self.assertEqual(size(RING), (8, 1))
        self.assertEqual(size((whole(-FAR, FAR), whole(-FAR, FAR), ("#",))), (4 * FAR * FAR, 1))

    def test_parted_lines(self):
        lower = (Fraction(1, 2) - Fraction(1, 3)) * Fraction(1, BIG)
        upper = (Fraction(1, 3) + Fraction(7, 2)) * Fraction(BIG, 8)
        self.assertEqual(size(PARTED), ((lower + upper).numerator, (lower + upper).denominator))

    def test_small_grids(self):
        xs, ys = [-1, 0, 2, 5], [0, 3, 4, 8]
        for rows in grids(3, 3):
            expected = sum((xs[across + 1] - xs[across]) * (ys[up + 1] - ys[up])
                           for up, across in product(range(3), repeat=2) if rows[up][across] == "#")
            with self.subTest(rows=rows):
                self.assertEqual(size(made(xs, ys, rows)), (expected, 1))


class LiesTest(unittest.TestCase):
    def check(self, yard, points):
        for x, y, expected in points:
            with self.subTest(yard=yard, x=x, y=y):
                self.assertEqual(lies(yard, x, y), expected)

    def test_within_cells(self):
        self.check(WHOLE, [((1, 2), (1, 1), "in"), ((2, 1), (1, 1), "out"), ((2, 1), (3, 1), "in")])
        self.check(RING, [((3, 2), (3, 2), "out"), ((5, 2), (3, 2), "in")])

    def test_on_lines_and_at_crossings(self):
        self.check(WHOLE, [
            ((1, 1), (1, 1), "rim"), ((1, 1), (3, 1), "in"), ((2, 1), (2, 1), "rim"), ((1, 2), (2, 1), "in"),
            ((1, 1), (2, 1), "rim"),
        ])
        plus_shape = made([0, 1, 2, 3], [0, 1, 2, 3], [".#.", "###", ".#."])
        self.check(plus_shape, [
            ((1, 1), (1, 1), "rim"), ((1, 1), (3, 2), "in"), ((0, 1), (0, 1), "out"), ((1, 2), (1, 1), "rim"),
            ((1, 1), (1, 2), "rim"), ((3, 2), (3, 2), "in"),
        ])
        gap = made([0, 1, 3, 4], [0, 1, 2, 3], ["#.#", "...", "#.#"])
        self.check(gap, [((2, 1), (1, 1), "out"), ((2, 1), (3, 2), "out"), ((1, 1), (3, 2), "out"), ((1, 1), (1, 1), "rim")])
        split = made([0, 1, 2, 3, 4], [0, 1, 2, 3], ["#..#", "####", "####"])
        self.check(split, [((1, 1), (2, 1), "in"), ((1, 1), (1, 1), "rim"), ((3, 1), (5, 2), "in")])

    def test_where_all_four_cells_at_a_crossing_are_in(self):
        yard = made([0, 1, 2, 3], [0, 1, 2, 3], ["#.#", "###", "##."])
        self.check(yard, [((1, 1), (2, 1), "in"), ((2, 1), (2, 1), "rim"), ((1, 1), (1, 1), "rim")])

    def test_where_cells_touch_at_corners_alone(self):
        yard = made([0, 1, 2], [0, 1, 2], ["#.", ".#"])
        self.check(yard, [((1, 1), (1, 1), "rim"), ((1, 1), (1, 2), "rim"), ((3, 2), (1, 2), "out"), ((2, 1), (0, 1), "out")])

    def test_outer_lines_and_beyond(self):
        self.check(WHOLE, [
            ((0, 1), (1, 1), "rim"), ((3, 1), (3, 1), "rim"), ((3, 1), (1, 1), "out"), ((1, 2), (0, 1), "rim"),
            ((1, 1), (5, 1), "rim"), ((0, 1), (0, 1), "rim"), ((3, 1), (5, 1), "rim"), ((3, 1), (0, 1), "out"),
            ((-1, 10), (1, 1), "out"), ((31, 10), (3, 1), "out"), ((1, 2), (-1, 10), "out"), ((1, 2), (51, 10), "out"),
            ((0, 1), (6, 1), "out"), ((1, 1), (-1, 1), "out"), ((9, 1), (2, 1), "out"), ((-9, 1), (5, 1), "out"),
            ((BIG, 1), (1, BIG), "out"), ((1, BIG), (1, BIG), "in"), ((-1, BIG), (1, BIG), "out"),
            ((BIG - 1, BIG), (BIG, BIG - 1), "in"), ((BIG, BIG - 1), (BIG, BIG - 1), "out"),
        ])

    def test_parted_lines(self):
        self.check(PARTED, [
            ((1, 3), (0, 1), "rim"), ((2, 5), (-1, 2 * BIG), "in"), ((2, 5), (-1, BIG), "rim"), ((-7, 2), (BIG, 8), "rim"),
            ((1, 2), (0, 1), "rim"), ((0, 1), (1, BIG), "in"), ((0, 1), (-1, BIG), "out"),
        ])

    def test_void_yard(self):
        self.check(VOID, [((0, 1), (0, 1), "out"), ((-5, 3), (BIG, 2), "out")])

    def test_small_grids(self):
        xs, ys = [0, 1, 3, 4], [0, 2, 3, 5]
        places = [Fraction(k, 2) for k in range(-1, 12)]
        for rows in grids(3, 3)[::3]:
            yard = made(xs, ys, rows)
            for x, y in product(places, repeat=2):
                told = lies(yard, (x.numerator, x.denominator), (y.numerator, y.denominator))
                if told != expected_lies((whole(*xs), whole(*ys), rows), x, y):
                    self.fail((rows, x, y, told))


if __name__ == "__main__":
    unittest.main()
