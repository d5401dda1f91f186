"""Points [2], [3], [4], [10] and [29]: rain."""

import copy
import random
import unittest
from fractions import Fraction

from roofridges.errors import NoPoint, RoofError
from roofridges.fronts import sides
from roofridges.heights import height, touched
from roofridges.rain import rain
from roofridges.yards import lies
from tests.helpers import (
    BIG, GREAT, HUGE, PACES, RING, SHAPES, VOID, bringings, drawn, expected_height, expected_touch, points_of,
    some_yards, told, worth)

EAST, NORTH, WEST, SOUTH = range(4)
ONES = (1, 1, 1, 1)
NOUGHT = (0, 1)
HALF = Fraction(1, 2)
HALL = drawn([0, 10], [0, 6], ["#"])
ELL = drawn([0, 4, 10], [0, 4, 10], ["#.", "##"])
# The hall has a pillar in its middle, from (4, 4) to (6, 6).
PILLAR = drawn([0, 4, 6, 10], [0, 4, 6, 10], ["###", "#.#", "###"])


def some_points(yard, dice, count):
    """Points anywhere between the outermost lines."""
    if yard == VOID:
        return []
    ends = [(worth(lines)[0], worth(lines)[-1]) for lines in yard[:2]]
    return [tuple(low + (high - low) * dice.randint(1, 59) / 60 for low, high in ends) for one in range(count)]


def cases(seed, most_points=15):
    dice = random.Random(seed)
    for place, yard in enumerate(list(SHAPES.values()) + [PILLAR] + some_yards(seed, 24) + list(GREAT.values())[1:3]):
        many = points_of(yard)
        many = dice.sample(many, min(most_points, len(many))) + some_points(yard, dice, most_points)
        for x, y in many:
            yield yard, PACES[place % len(PACES)], x, y


def expected_rain(yard, paces, x, y):
    """By the words of [29], of a point in the yard or on its rim."""
    here = expected_height(yard, paces, x, y)
    if here == 0:
        return [(x, y, Fraction(0))]
    hit = [side for side in sides(yard) if expected_touch(paces, x, y, here, side)]
    facing, line = hit[0][:2]
    hit = [(Fraction(*begin), Fraction(*end)) for other, on, begin, end in hit if (other, on) == (facing, line)]
    line = Fraction(*line)
    east, north, west, south = paces
    upright = facing in (EAST, WEST)
    at, down, up = (y, north, south) if upright else (x, east, west)

    def point(across, along, time):
        return (across, along, time) if upright else (along, across, time)
    if any(begin <= at <= end for begin, end in hit):
        return [(x, y, here), point(line, at, Fraction(0))]
    times = []
    for begin, end in hit:
        times.append(((at - end) / down, 0, end) if end < at else ((begin - at) / up, 1, begin))
    time, above, end = min(times)
    turn = point(line + (paces[facing] if facing in (EAST, NORTH) else -paces[facing]) * time, at, time)
    way = [(x, y, here)] + ([turn] if turn[:2] != (x, y) else [])
    return way + [point(line, end, Fraction(0))]


def rained(yard, paces, x, y):
    return [tuple(Fraction(*number) for number in point) for point in rain(yard, paces, told(x), told(y))]


class RainTest(unittest.TestCase):
    def check(self, yard, paces, x, y, expected):
        with self.subTest(yard=yard, paces=paces, x=x, y=y):
            self.assertEqual(rain(yard, paces, told(x), told(y)), [tuple(map(told, point)) for point in expected])

    def test_straight_by_each_facing(self):
        self.check(HALL, ONES, 1, 3, [(1, 3, 1), (0, 3, 0)])
        self.check(HALL, ONES, 9, 3, [(9, 3, 1), (10, 3, 0)])
        self.check(HALL, ONES, 5, 1, [(5, 1, 1), (5, 0, 0)])
        self.check(HALL, ONES, 5, 5, [(5, 5, 1), (5, 6, 0)])
        self.check(HALL, (1, 2, 3, 4), HALF, 3, [(HALF, 3, HALF), (0, 3, 0)])
        self.check(HALL, (1, 2, 3, 4), 9, 3, [(9, 3, Fraction(1, 3)), (10, 3, 0)])

    def test_first_touched_front(self):
        self.check(HALL, ONES, 1, 1, [(1, 1, 1), (0, 1, 0)])
        self.check(HALL, ONES, 5, 3, [(5, 3, 3), (5, 0, 0)])
        self.check(HALL, ONES, 9, 5, [(9, 5, 1), (10, 5, 0)])
        self.check(HALL, ONES, 3, 3, [(3, 3, 3), (0, 3, 0)])

    def test_turns_round_a_corner_in(self):
        # North-east of the pillar the first touched front is its east side, which faces east.
        self.check(PILLAR, ONES, 8, 7, [(8, 7, 2), (7, 7, 1), (6, 6, 0)])
        self.check(PILLAR, ONES, 8, 3, [(8, 3, 2), (7, 3, 1), (6, 4, 0)])
        self.check(PILLAR, ONES, 7, Fraction(13, 2), [(7, Fraction(13, 2), 1), (Fraction(13, 2), Fraction(13, 2), HALF), (6, 6, 0)])

    def test_each_facing_turns_by_its_own_paces(self):
        paces = (2, 4, 3, 5)
        self.check(PILLAR, paces, Fraction(13, 2), Fraction(13, 2), [
            (Fraction(13, 2), Fraction(13, 2), Fraction(1, 4)), (Fraction(25, 4), Fraction(13, 2), Fraction(1, 8)), (6, 6, 0)])
        self.check(PILLAR, paces, Fraction(13, 2), Fraction(7, 2), [
            (Fraction(13, 2), Fraction(7, 2), Fraction(1, 4)), (Fraction(31, 5), Fraction(7, 2), Fraction(1, 10)), (6, 4, 0)])
        # West of the pillar by its west side, which faces west.
        self.check(PILLAR, paces, Fraction(7, 2), Fraction(25, 4), [
            (Fraction(7, 2), Fraction(25, 4), Fraction(1, 6)), (Fraction(61, 16), Fraction(25, 4), Fraction(1, 16)), (4, 6, 0)])
        # Above it by its north side, which faces north, and below it by the one that faces south.
        self.check(PILLAR, paces, Fraction(25, 4), 7, [
            (Fraction(25, 4), 7, Fraction(1, 4)), (Fraction(25, 4), Fraction(13, 2), Fraction(1, 8)), (6, 6, 0)])
        self.check(PILLAR, paces, Fraction(31, 8), 3, [
            (Fraction(31, 8), 3, Fraction(1, 5)), (Fraction(31, 8), Fraction(91, 24), Fraction(1, 24)), (4, 4, 0)])

    def test_turn_that_is_the_point_itself_is_not_told(self):
        self.check(PILLAR, ONES, 7, 7, [(7, 7, 1), (6, 6, 0)])
        self.check(PILLAR, ONES, 3, 3, [(3, 3, 1), (4, 4, 0)])
        self.check(ELL, ONES, 3, 5, [(3, 5, 1), (4, 4, 0)])

    def test_ends_of_a_side_are_counted_as_within(self):
        self.check(PILLAR, ONES, 7, 6, [(7, 6, 1), (6, 6, 0)])
        self.check(PILLAR, ONES, 7, 4, [(7, 4, 1), (6, 4, 0)])
        self.check(PILLAR, ONES, 6, 7, [(6, 7, 1), (6, 6, 0)])

    def test_of_several_sides_the_soonest_and_of_like_ones_the_end_below(self):
        # The west wall of the room has a door; two sides of one front touch the box.
        room = drawn([-9, 0, 9], [0, 4, 8, 12], [".#", "##", ".#"])
        self.check(room, ONES, 3, 6, [(3, 6, 3), (2, 6, 2), (0, 4, 0)])
        self.check(room, ONES, 3, Fraction(13, 2), [(3, Fraction(13, 2), 3), (Fraction(3, 2), Fraction(13, 2), Fraction(3, 2)), (0, 8, 0)])
        self.check(room, ONES, 3, Fraction(11, 2), [(3, Fraction(11, 2), 3), (Fraction(3, 2), Fraction(11, 2), Fraction(3, 2)), (0, 4, 0)])
        # With another pace to the south the sides take other times.
        self.check(room, (1, 1, 1, 2), 2, 6, [(2, 6, 2), (1, 6, 1), (0, 8, 0)])
        self.check(room, (1, 2, 1, 1), 2, 6, [(2, 6, 2), (1, 6, 1), (0, 4, 0)])
        floor = drawn([0, 4, 8, 12], [-9, 0, 9], [".#.", "###"])
        self.check(floor, ONES, 6, 3, [(6, 3, 3), (6, 2, 2), (4, 0, 0)])
        self.check(floor, (1, 1, 2, 1), 6, 3 * HALF, [(6, 3 * HALF, 3 * HALF), (6, 1, 1), (8, 0, 0)])
        self.check(floor, (1, 1, 2, 1), 6, 5 * HALF, [(6, 5 * HALF, 5 * HALF), (6, 1, 1), (8, 0, 0)])
        # Here the box comes to the end of the pit's own wall, too, which faces east and is the first.
        self.check(floor, (1, 1, 2, 1), 6, 2, [(6, 2, 2), (4, 0, 0)])

    def test_a_side_within_goes_before_a_sooner_front(self):
        self.check(ELL, ONES, 2, 6, [(2, 6, 2), (0, 6, 0)])

    def test_on_the_rim_the_point_alone(self):
        for yard, x, y in [(HALL, 0, 3), (HALL, 0, 0), (HALL, 10, 6), (ELL, 4, 4), (ELL, 4, 2), (SHAPES["touch"], 1, 1)]:
            self.check(yard, (1, 2, 3, 4), x, y, [(x, y, 0)])

    def test_refused_outside(self):
        for yard, x, y in [(ELL, 6, 2), (ELL, -1, 3), (ELL, 10, 0), (VOID, 0, 0), (RING, 3 * HALF, 3 * HALF), (HALL, 20, 3)]:
            for refusal in (NoPoint, RoofError):
                with self.assertRaises(refusal):
                    rain(yard, (1, 2, 3, 4), told(x), told(y))

    def test_by_the_words_of_the_document(self):
        turned_ways = 0
        for yard, paces, x, y in cases(141):
            if lies(yard, told(x), told(y)) == "out":
                with self.assertRaises(NoPoint):
                    rain(yard, paces, told(x), told(y))
                continue
            expected = expected_rain(yard, paces, x, y)
            self.assertEqual(rain(yard, paces, told(x), told(y)), [tuple(map(told, point)) for point in expected])
            turned_ways += len(expected) == 3
        self.assertGreater(turned_ways, 10)

    def test_at_many_points_of_small_yards(self):
        for yard in (PILLAR, ELL, SHAPES["zed"], SHAPES["comb"], SHAPES["two holes that touch"]):
            for paces in PACES:
                for x, y in points_of(yard, drawn([0, Fraction(7, 3), 5], [1, Fraction(9, 4), 6], ["#.", ".#"]))[::3]:
                    if lies(yard, told(x), told(y)) == "in":
                        self.assertEqual(rained(yard, paces, x, y), expected_rain(yard, paces, x, y))

    def test_goes_down_by_just_the_paces(self):
        for yard, paces, x, y in cases(142):
            if lies(yard, told(x), told(y)) != "in":
                continue
            way = rained(yard, paces, x, y)
            self.assertEqual(way[0][:2], (x, y))
            self.assertEqual(way[-1][2], 0)
            self.assertEqual(lies(yard, *map(told, way[-1][:2])), "rim")
            facing, line = touched(yard, paces, told(x), told(y))[0]
            for here, there in zip(way, way[1:]):
                self.assertEqual(told(there[2]), height(yard, paces, told(there[0]), told(there[1])))
                self.assertLess(there[2], here[2])
                across = facing % 2
                gone = here[across] - there[across]
                self.assertEqual(gone, (paces[facing] if facing < 2 else -paces[facing]) * (here[2] - there[2]))
            self.assertEqual(way[-1][facing % 2], Fraction(*line))

    def test_sixty_figures(self):
        for x, y in [(Fraction(-1, BIG), Fraction(1, BIG)), (Fraction(1, BIG) - Fraction(1, BIG - 1), Fraction(BIG - 1, BIG)),
                     (Fraction(-BIG + 1), HALF), (Fraction(BIG - 1, BIG), Fraction(-5)), (Fraction(-2), Fraction(BIG, BIG + 1))]:
            for paces in PACES:
                self.assertEqual(rained(HUGE, paces, x, y), expected_rain(HUGE, paces, x, y))

    def test_brought_elsewhere(self):
        # Moved and stretched it goes the same way; turned and mirrored, another front may be the first.
        for yard, paces, x, y in cases(143, 4):
            if lies(yard, told(x), told(y)) == "out":
                continue
            for brought in list(bringings(yard, paces)):
                if brought.facings[0][0] != 0:
                    continue
                expected = [(brought.number(0, one), brought.number(1, other), brought.height(worth_of_it))
                            for one, other, worth_of_it in rain(yard, paces, told(x), told(y))]
                point = (brought.number(0, told(x)), brought.number(1, told(y)))
                self.assertEqual(rain(brought.yard, brought.paces, *point), expected)

    def test_turned_and_mirrored_where_one_front_alone_is_touched(self):
        for yard, paces, x, y in cases(144, 12):
            if lies(yard, told(x), told(y)) != "in" or len(touched(yard, paces, told(x), told(y))) != 1:
                continue
            way = rained(yard, paces, x, y)
            for brought in list(bringings(yard, paces))[1:3]:
                if brought.facings[0][0] == 1:
                    self.assertEqual(rained(brought.yard, brought.paces, -y, x), [(-b, a, t) for a, b, t in way])
                else:
                    self.assertEqual(rained(brought.yard, brought.paces, -x, y), [(-a, b, t) for a, b, t in way])

    def test_what_is_handed_in_stays_and_what_is_told_is_the_asker_s_own(self):
        yard, paces = copy.deepcopy(PILLAR), (1, 2, 3, 4)
        before = copy.deepcopy((yard, paces))
        first = rain(yard, paces, (7, 1), (7, 1))
        kept = copy.deepcopy(first)
        first.clear()
        self.assertEqual(rain(yard, paces, (7, 1), (7, 1)), kept)
        self.assertEqual((yard, paces), before)


if __name__ == "__main__":
    unittest.main()
