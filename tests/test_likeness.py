"""Points [2], [3], [4], [10] and [30]: whether two yards are alike, and what shows it."""

import copy
import random
import unittest
from fractions import Fraction
from itertools import product

from roofridges.likeness import likeness, shows_likeness
from roofridges.yards import lies
from tests.helpers import (
    BIG, GREAT, HUGE, RING, SHAPES, SQUARE, VOID, drawn, lines_brought, mirrored_yard, on_grid, some_yards, told, turned_yard,
    whole, worth)

NOUGHT = (0, 1)
WAYS = [(mirrored, turns) for mirrored in (False, True) for turns in range(4)]
# Of this yard no two ways tell the same.
CROOKED = drawn([0, 1, 3, 7], [0, 2, 3], ["###", ".#."])
BAR = drawn([0, 5], [0, 2], ["#"])
ELL = on_grid(["##", "#."])


def brought(yard, mirrored, turns, x=0, y=0):
    yard = mirrored_yard(yard) if mirrored else yard
    for count in range(turns):
        yard = turned_yard(yard)
    return lines_brought(yard, (1, 1), (Fraction(x), Fraction(y)))


def laid_on(one, other, mirrored, turns):
    """The first yard brought so and moved so that its least lines are those of the second."""
    yard = brought(one, mirrored, turns)
    if VOID in (yard, other):
        return yard
    return brought(yard, False, 0, *[worth(second)[0] - worth(first)[0] for first, second in zip(yard[:2], other[:2])])


def yards():
    return list(SHAPES.values()) + [CROOKED, BAR, ELL] + some_yards(151, 12) + list(GREAT.values())


class LikenessTest(unittest.TestCase):
    def check_unlike(self, one, other):
        kind, points = likeness(one, other)
        self.assertEqual(kind, "unlike")
        self.assertIsInstance(points, list)
        self.assertEqual(len(points), 8)
        for (mirrored, turns), point in zip(WAYS, points):
            self.assertIsInstance(point, tuple)
            x, y, which = point
            self.assertIn(repr(which), ("0", "1"))
            where = (lies(laid_on(one, other, mirrored, turns), x, y), lies(other, x, y))
            self.assertEqual(where, [("in", "out"), ("out", "in")][which])
        self.assertIs(shows_likeness(one, other, (kind, points)), True)

    def test_each_way_of_a_crooked_yard(self):
        for (mirrored, turns), (x, y) in product(WAYS, [(0, 0), (3, -8), (Fraction(-1, 2), Fraction(7, 3))]):
            other = brought(CROOKED, mirrored, turns, x, y)
            self.assertEqual(likeness(CROOKED, other), ("same", turns, mirrored, told(x), told(y)))

    def test_moved(self):
        self.assertEqual(likeness(BAR, lines_brought(BAR, (1, 1), (Fraction(1, 2), -3))), ("same", 0, False, (1, 2), (-3, 1)))

    def test_turned_and_mirrored(self):
        other = drawn([0, 2], [0, 5], ["#"])
        self.assertEqual(likeness(BAR, other), ("same", 1, False, (2, 1), NOUGHT))
        self.assertEqual(likeness(on_grid(["##.", ".##"]), on_grid([".##", "##."])), ("same", 0, True, (3, 1), NOUGHT))
        self.assertEqual(likeness(on_grid(["##.", ".##"]), on_grid(["#.", "##", ".#"])), ("same", 1, True, (2, 1), (3, 1)))

    def test_fewest_turns_and_not_mirrored_first(self):
        self.assertEqual(likeness(SQUARE, SQUARE), ("same", 0, False, NOUGHT, NOUGHT))
        self.assertEqual(likeness(ELL, on_grid(["##", ".#"])), ("same", 1, False, (2, 1), NOUGHT))
        for yard in yards():
            self.assertEqual(likeness(yard, yard), ("same", 0, False, NOUGHT, NOUGHT))

    def test_by_the_words_of_the_document(self):
        dice = random.Random(152)
        for yard in yards():
            way = dice.choice(WAYS)
            x, y = Fraction(dice.randint(-99, 99), 7), Fraction(dice.randint(-99, 99), 4)
            other = brought(yard, *way, x, y)
            if yard == VOID:
                continue
            kind, turns, mirrored, by_x, by_y = likeness(yard, other)
            self.assertEqual(kind, "same")
            self.assertIs(type(mirrored), bool)
            self.assertEqual(brought(yard, mirrored, turns, Fraction(*by_x), Fraction(*by_y)), other)
            fitting = [one for one in WAYS if laid_on(yard, other, *one) == other]
            self.assertEqual((mirrored, turns), fitting[0])

    def test_two_void_yards(self):
        self.assertEqual(likeness(VOID, VOID), ("same", 0, False, NOUGHT, NOUGHT))

    def test_a_void_yard_and_another(self):
        for yard in (SQUARE, CROOKED, HUGE, RING, brought(CROOKED, False, 0, 50, -50)):
            self.check_unlike(VOID, yard)
            self.check_unlike(yard, VOID)
            self.assertEqual([point[2] for point in likeness(VOID, yard)[1]], [1] * 8)
            self.assertEqual([point[2] for point in likeness(yard, VOID)[1]], [0] * 8)

    def test_unlike(self):
        many = yards()
        for one, other in zip(many, many[1:] + many[:1]):
            if all(laid_on(one, other, *way) != other for way in WAYS):
                self.check_unlike(one, other)

    def test_differ_in_one_cell(self):
        rows = ["####", "#..#", "####", "##.#"]
        for up, across in product(range(4), range(4)):
            changed = [list(row) for row in rows]
            changed[up][across] = "." if changed[up][across] == "#" else "#"
            self.check_unlike(on_grid(rows), on_grid(["".join(row) for row in changed]))

    def test_differ_in_one_line_or_in_lines_alone(self):
        for line in (Fraction(14, 5), 4, Fraction(3) + Fraction(1, BIG), Fraction(3) - Fraction(1, BIG)):
            self.check_unlike(CROOKED, drawn([0, 1, line, 7], [0, 2, 3], ["###", ".#."]))
            self.check_unlike(drawn([0, 1, line, 7], [0, 2, 3], ["###", ".#."]), CROOKED)
        self.check_unlike(BAR, drawn([0, 5], [0, 3], ["#"]))
        self.check_unlike(BAR, drawn([0, 10], [0, 4], ["#"]))
        self.check_unlike(drawn([0, 10], [0, 4], ["#"]), BAR)
        # As great and as high, but not alike.
        self.check_unlike(on_grid(["##", "##"]), drawn([0, 4], [0, 1], ["#"]))

    def test_which_tells_of_both(self):
        # The one is within the other, so that only one of both has points of its own.
        self.assertEqual({point[2] for point in likeness(on_grid(["##", "#."]), on_grid(["##", "##"]))[1]}, {1})
        self.assertEqual({point[2] for point in likeness(on_grid(["##", "##"]), on_grid(["##", "#."]))[1]}, {0})

    def test_sixty_figures(self):
        other = brought(HUGE, True, 3, Fraction(BIG, 8), Fraction(-1, BIG))
        self.assertEqual(likeness(HUGE, other), ("same", 3, True, (BIG, 8), (-1, BIG)))
        self.check_unlike(HUGE, brought(CROOKED, True, 3, Fraction(BIG, 8), Fraction(-1, BIG)))

    def test_what_is_handed_in_stays_and_what_is_told_is_the_asker_s_own(self):
        one, other = copy.deepcopy(CROOKED), copy.deepcopy(RING)
        first = likeness(one, other)
        kept = copy.deepcopy(first)
        first[1].clear()
        self.assertEqual(likeness(one, other), kept)
        self.assertEqual((one, other), (CROOKED, RING))


class ShowsLikenessTest(unittest.TestCase):
    def check(self, one, other, thing, expected):
        before = copy.deepcopy(thing)
        with self.subTest(thing=thing):
            self.assertIs(shows_likeness(one, other, thing), expected)
            self.assertEqual(thing, before)

    def test_any_way_that_brings_the_first_to_the_second(self):
        for mirrored, turns in WAYS:
            x, y = [(0, 0), (1, 0), (1, 1), (0, 1), (1, 0), (1, 1), (0, 1), (0, 0)][WAYS.index((mirrored, turns))]
            self.check(SQUARE, SQUARE, ("same", turns, mirrored, told(x), told(y)), True)
            self.check(SQUARE, SQUARE, ("same", turns, mirrored, told(x + 1), told(y)), False)
            self.check(SQUARE, SQUARE, ("same", turns, mirrored, told(x), told(y - 1)), False)

    def test_by_the_words_of_the_document(self):
        for yard in yards():
            for way, other_way in product(WAYS, WAYS[::3]):
                other = brought(yard, *other_way, 5, Fraction(1, 3))
                placed = laid_on(yard, other, *way)
                back = brought(yard, *way)
                x, y = [told(worth(second)[0] - worth(first)[0]) if first else NOUGHT for first, second in zip(back[:2], other[:2])]
                self.check(yard, other, ("same", way[1], way[0], x, y), placed == other)

    def test_two_void_yards_by_any_way(self):
        for mirrored, turns in WAYS:
            self.check(VOID, VOID, ("same", turns, mirrored, (5, 7), (-1, BIG)), True)
        self.check(VOID, VOID, ("same", 4, False, NOUGHT, NOUGHT), False)
        self.check(VOID, VOID, ("unlike", []), False)
        self.check(VOID, VOID, ("unlike", [(NOUGHT, NOUGHT, 0)] * 8), False)
        self.check(VOID, SQUARE, ("same", 0, False, NOUGHT, NOUGHT), False)
        self.check(SQUARE, VOID, ("same", 0, False, NOUGHT, NOUGHT), False)

    def test_bent_same(self):
        other = brought(CROOKED, False, 1, 3, 4)
        x, y = (3, 1), (4, 1)
        self.check(CROOKED, other, ("same", 1, False, x, y), True)
        for bent in [
                ["same", 1, False, x, y], ("same", True, False, x, y), ("same", 1, 0, x, y), ("same", 1, None, x, y),
                ("same", 1, False, x), ("same", 1, False, x, y, y), ("same", 1, False, [3, 1], y), ("same", 1, False, x, [4, 1]),
                ("same", 1, False, (6, 2), y), ("same", 1, False, x, (8, 2)), ("same", 1, False, 3, y), ("same", 1, False, x, 4),
                ("same", 1, False, (3, True), y), ("same", 1, False, x, (4, True)), ("same", 5, False, x, y),
                ("same", -3, False, x, y), ("same", 1, True, x, y), ("same", 0, False, x, y), ("same", "1", False, x, y),
                ("same", None, False, x, y), ("same", (1,), False, x, y), ("Same", 1, False, x, y), ("unlike", 1, False, x, y),
                (1, False, x, y), ("same", False, 1, x, y), ("same", 1, False, y, x), ("same", 1, False, x, (5, 1)),
                ("same", 1, False, (2, 1), y), ("same", 1, "", x, y), ("same", 1, False, None, y), ("same", BIG, False, x, y),
                (["same"], 1, False, x, y), (None, 1, False, x, y), ("same",), (), ("same", 1), ("same", (1, False, x, y))]:
            self.check(CROOKED, other, bent, False)
        for turns in (-1, -4, 4, -BIG):
            self.check(CROOKED, CROOKED, ("same", turns, False, NOUGHT, NOUGHT), False)
        self.check(CROOKED, CROOKED, ("same", 0, 0, NOUGHT, NOUGHT), False)
        self.check(CROOKED, CROOKED, ("same", False, False, NOUGHT, NOUGHT), False)
        self.check(CROOKED, brought(CROOKED, True, 0), ("same", 0, 1, NOUGHT, NOUGHT), False)
        self.check(CROOKED, brought(CROOKED, True, 0), ("same", 0, True, NOUGHT, NOUGHT), True)

    def test_any_plain_thing(self):
        deep = ()
        for count in range(39):
            deep = (deep,)
        for thing in [None, True, False, 0, 7, "", "same", "unlike", [], (), [()], ((),), ("same", 0), deep, ("unlike", deep),
                      ("unlike", None), ("unlike", "12345678"), ("unlike", 8), ("unlike", [deep] * 8), (0, 1), ("unlike",)]:
            for one, other in [(SQUARE, SQUARE), (SQUARE, BAR), (VOID, VOID), (VOID, BAR)]:
                self.check(one, other, thing, False)

    def test_any_right_points(self):
        whole_square = on_grid(["##", "##"])
        # The cell that the ell lacks comes to another corner by each way.
        lacking = {way: laid_on(ELL, whole_square, *way) for way in WAYS}
        points = []
        for way in WAYS:
            free = [(x, y) for x, y in product((Fraction(1, 3), Fraction(5, 3)), repeat=2)
                    if lies(lacking[way], told(x), told(y)) == "out"]
            points.append((told(free[0][0]), told(free[0][1]), 1))
        self.check(ELL, whole_square, ("unlike", points), True)
        for place in range(8):
            x, y, which = points[place]
            for bent in [(x, y, 0), (x, y, True), (x, y, 2), (x, y, -1), (x, y, None), (x, y), (x, y, 1, 1), [x, y, 1],
                         ((1, 1), (1, 1), 1), (x, (1, 1), 1), ((1, 1), y, 1), ((x[0] * 2, x[1] * 2), y, 1), (x, list(y), 1),
                         (x, (y[0], -y[1]), 1), (NOUGHT, y, 1), (x, (9, 1), 1), (told(2 - Fraction(*x)), y, 1), (1, 1, 1), None,
                         (x, y, "1"), (x, y, (1,)), "point", 7]:
                self.check(ELL, whole_square, ("unlike", points[:place] + [bent] + points[place + 1:]), False)
        for bent in [("unlike", points[1:]), ("unlike", points + points[:1]), ["unlike", points], ("unlike", tuple(points)),
                     ("unlike", points, points), ("unlike", [points]), ("same", points), ("unlike", []), (points,),
                     ("unlike", None), (None, points), ("unlike", points[1:] + points[:1])]:
            self.check(ELL, whole_square, bent, False)

    def test_points_on_the_rim(self):
        small, great = drawn([0, 2], [0, 2], ["#"]), drawn([0, 4], [0, 4], ["#"])
        inner = ((3, 1), (3, 1), 1)
        self.check(small, great, ("unlike", [inner] * 8), True)
        self.check(great, small, ("unlike", [inner[:2] + (0,)] * 8), True)
        for x, y in [(2, 1), (2, 2), (1, 2), (4, 3), (3, 4), (4, 4), (1, 1), (5, 5), (0, 3)]:
            bent = (told(x), told(y), 1)
            self.check(small, great, ("unlike", [inner] * 7 + [bent]), False)
            self.check(small, great, ("unlike", [bent] + [inner] * 7), False)

    def test_truth_for_which(self):
        small, great = drawn([0, 2], [0, 2], ["#"]), drawn([0, 4], [0, 4], ["#"])
        self.check(great, small, ("unlike", [((3, 1), (3, 1), False)] * 8), False)
        self.check(small, great, ("unlike", [((3, 1), (3, 1), True)] * 8), False)

    def test_moved_so_that_least_lines_are_one(self):
        small = brought(drawn([0, 2], [0, 2], ["#"]), False, 0, 100, -100)
        great = brought(drawn([0, 4], [0, 4], ["#"]), False, 0, -50, Fraction(1, 2))
        point = ((-47, 1), (7, 2), 1)
        self.check(small, great, ("unlike", [point] * 8), True)
        # A void one stays, and so does the other where the second is void.
        self.check(VOID, great, ("unlike", [point] * 8), True)
        within = [(Fraction(101), Fraction(-99)), (99, 101), (-101, 99), (-99, -101), (-101, -99), (99, -101), (101, 99), (-99, 101)]
        points = [(told(x), told(y), 0) for x, y in within]
        self.check(small, VOID, ("unlike", points), True)
        self.check(small, VOID, ("unlike", points[1:] + points[:1]), False)

    def test_alike_yards_are_never_shown_unlike(self):
        for yard in (SQUARE, CROOKED, RING):
            for answer in (likeness(yard, on_grid(["#####"])), likeness(yard, VOID), likeness(VOID, yard)):
                self.check(yard, yard, answer, False)

    def test_told_answers(self):
        many = yards()
        for one, other in zip(many, many[2:] + many[:2]):
            self.check(one, other, likeness(one, other), True)
            self.check(one, one, likeness(one, one), True)

    def test_lines_of_whole_numbers(self):
        self.assertEqual(brought(BAR, False, 1), (whole(-2, 0), whole(0, 5), ("#",)))


if __name__ == "__main__":
    unittest.main()
