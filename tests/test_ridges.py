"""Points [2], [3], [4], [10] and [26] to [28]: ridges and valleys, crests, the top."""

import copy
import random
import unittest
from fractions import Fraction

from roofridges.cuts import cut
from roofridges.fronts import corners, fronts, sides
from roofridges.heights import height, touched
from roofridges.levels import levels, meetings
from roofridges.ridges import crests, highest, ridges
from roofridges.yards import lies
from tests.helpers import (
    GREAT, HUGE, PACES, RING, SHAPES, SQUARE, VOID, bringings, crest_rank, drawn, expected_height, expected_touch,
    heights_between, meeting_heights, moving_line, on_grid, places, points_of, ridge_rank, some_yards, told, worth)

EAST, NORTH, WEST, SOUTH = range(4)
ONES = (1, 1, 1, 1)
NOUGHT = (0, 1)
ONE = (1, 1)
HALL = drawn([0, 10], [0, 6], ["#"])
ELL = drawn([0, 4, 10], [0, 4, 10], ["#.", "##"])
TWO_ROOMS = drawn([0, 6, 8, 14], [0, 2, 4, 6], ["#.#", "###", "#.#"])
KINDS = {"out": "ridge", "in": "valley"}


def cases(count=12):
    for place, yard in enumerate(list(SHAPES.values()) + [HALL, ELL, TWO_ROOMS] + some_yards(131, count, 6)):
        yield yard, PACES[place % len(PACES)]
    for place, yard in enumerate(list(SHAPES.values())[1:20]):
        yield yard, PACES[(place + 3) % len(PACES)]


def is_crest_point(yard, paces, met, x, y):
    """By the words of [27], with a look at height and touch that owes nothing to the program."""
    worth_of_it, one, other = Fraction(*met[0]), met[1], met[2]
    if expected_height(yard, paces, x, y) != worth_of_it:
        return False
    return all(any(side[:2] == front and expected_touch(paces, x, y, worth_of_it, side) for side in sides(yard))
               for front in (one, other))


class RidgesTest(unittest.TestCase):
    def test_void_yard(self):
        self.assertEqual(ridges(VOID, (1, 2, 3, 4)), [])

    def test_one_cell(self):
        east, north, west, south = fronts(HALL)
        for paces, high in [(ONES, (3, 1)), ((1, 2, 3, 4), ONE)]:
            self.assertEqual(ridges(HALL, paces), [
                ("ridge", east, north, NOUGHT, high), ("ridge", east, south, NOUGHT, high),
                ("ridge", west, north, NOUGHT, high), ("ridge", west, south, NOUGHT, high)])

    def test_valley(self):
        valleys = [ridge for ridge in ridges(ELL, ONES) if ridge[0] == "valley"]
        self.assertEqual(valleys, [("valley", (WEST, (4, 1)), (NORTH, (4, 1)), NOUGHT, (2, 1))])
        at_the_foot = [ridge for ridge in ridges(ELL, ONES) if ridge[1] == (EAST, NOUGHT)]
        self.assertEqual(at_the_foot, [
            ("ridge", (EAST, NOUGHT), (NORTH, NOUGHT), NOUGHT, (2, 1)), ("ridge", (EAST, NOUGHT), (NORTH, (4, 1)), (2, 1), (3, 1)),
            ("ridge", (EAST, NOUGHT), (SOUTH, (10, 1)), NOUGHT, (3, 1))])

    def test_holes_have_valleys_all_round(self):
        told_ridges = ridges(RING, ONES)
        self.assertEqual(len([one for one in told_ridges if one[0] == "valley"]), 4)
        self.assertEqual(len([one for one in told_ridges if one[0] == "ridge"]), 4)

    def test_cells_that_touch_have_ridges_alone(self):
        self.assertEqual([one[0] for one in ridges(SHAPES["touch"], ONES)], ["ridge"] * 8)

    def test_each_corner_of_the_cut_by_just_one(self):
        for yard, paces in cases():
            told_ridges = ridges(yard, paces)
            for at in heights_between(meeting_heights(paces, fronts(yard))):
                found = [(told(moving_line(paces, one, at)), told(moving_line(paces, other, at)), kind)
                         for kind, one, other, low, high in told_ridges if Fraction(*low) < at < Fraction(*high)]
                expected = [(x, y, KINDS[kind]) for x, y, kind in corners(cut(yard, paces, told(at)))]
                self.assertEqual(sorted(found), sorted(expected))

    def test_form_and_order(self):
        for yard, paces in cases():
            told_ridges = ridges(yard, paces)
            self.assertEqual(told_ridges, sorted(told_ridges, key=ridge_rank))
            heights = [told(one) for one in meeting_heights(paces, fronts(yard))]
            begun = [(ridge[:3], ridge[3]) for ridge in told_ridges]
            for ridge in told_ridges:
                self.assertEqual((ridge[1][0] % 2, ridge[2][0] % 2), (0, 1))
                self.assertIn(ridge[0], ("ridge", "valley"))
                self.assertTrue(ridge[3] in heights and ridge[4] in heights)
                self.assertNotIn((ridge[:3], ridge[4]), begun)

    def test_brought_elsewhere(self):
        for yard, paces in cases(6):
            for brought in bringings(yard, paces):
                self.assertEqual(ridges(brought.yard, brought.paces), brought.ridges(ridges(yard, paces)))


class CrestsTest(unittest.TestCase):
    def test_void_yard(self):
        self.assertEqual(crests(VOID, (1, 2, 3, 4)), [])

    def test_hall(self):
        east, north, west, south = fronts(HALL)
        self.assertEqual(crests(HALL, ONES), [((3, 1), north, south, (3, 1), (7, 1))])
        self.assertEqual(crests(HALL, (1, 2, 3, 4)), [((1, 1), north, south, (1, 1), (7, 1))])
        self.assertEqual(crests(HALL, (9, 1, 9, 1)), [((5, 9), east, west, (5, 9), (49, 9))])

    def test_one_point_alone(self):
        east, north, west, south = fronts(SQUARE)
        half = (1, 2)
        self.assertEqual(crests(SQUARE, ONES), [(half, east, west, half, half), (half, north, south, half, half)])

    def test_corridor_between_two_rooms(self):
        door = [crest for crest in crests(TWO_ROOMS, ONES) if crest[0] == ONE]
        # The box of the corridor's height touches its walls a little beyond their ends, too.
        self.assertEqual(door, [(ONE, (NORTH, (2, 1)), (SOUTH, (4, 1)), (5, 1), (9, 1))])

    def test_two_crests_of_one_pair_of_fronts(self):
        apart = on_grid(["##.##"])
        self.assertEqual(crests(apart, ONES), [
            ((1, 2), (NORTH, NOUGHT), (SOUTH, ONE), (1, 2), (3, 2)), ((1, 2), (NORTH, NOUGHT), (SOUTH, ONE), (7, 2), (9, 2))])

    def test_over_a_pit_in_the_floor(self):
        floor, ceiling = (NORTH, ONE), (SOUTH, (3, 1))
        # The pit is as wide as the box: over its middle the box touches the floor at both ends.
        as_wide = drawn([0, 4, 6, 10], [-9, 1, 3], [".#.", "###"])
        self.assertEqual([crest for crest in crests(as_wide, ONES) if crest[1:3] == (floor, ceiling)], [
            (ONE, floor, ceiling, ONE, (9, 1))])
        wider = drawn([0, 4, 8, 12], [-9, 1, 3], [".#.", "###"])
        self.assertEqual([crest for crest in crests(wider, ONES) if crest[1:3] == (floor, ceiling)], [
            (ONE, floor, ceiling, ONE, (5, 1)), (ONE, floor, ceiling, (7, 1), (11, 1))])
        two = drawn([0, 4, 8, 12, 13, 17], [-9, 1, 3], [".#.#.", "#####"])
        self.assertEqual([crest for crest in crests(two, ONES) if crest[1:3] == (floor, ceiling)], [
            (ONE, floor, ceiling, ONE, (5, 1)), (ONE, floor, ceiling, (7, 1), (16, 1))])

    def test_meeting_without_a_crest(self):
        heights = [crest[0] for crest in crests(HALL, ONES)]
        self.assertIn((5, 1), [met[0] for met in meetings(HALL, ONES)])
        self.assertNotIn((5, 1), heights)

    def test_by_heights_and_touched_fronts_at_points_of_and_between_the_lines(self):
        dice = random.Random(132)
        for yard, paces in cases():
            all_crests = crests(yard, paces)
            for met in meetings(yard, paces):
                way = met[1][0] % 2
                line = moving_line(paces, met[1], Fraction(*met[0]))
                mine = [crest for crest in all_crests if crest[:3] == met]
                down, up = paces[1 - way] * Fraction(*met[0]), paces[3 - way] * Fraction(*met[0])
                ends = [end for crest in mine for end in worth(crest[3:])]
                # Only where an end of a side comes to an end of the box does anything change along the line.
                along = [one + by for one in worth(yard[1 - way]) for by in (0, down, -up)]
                many = sorted(places(along, ends))
                for at in dice.sample(many, min(9, len(many))) + ends:
                    x, y = (line, at) if way == 0 else (at, line)
                    told_so = any(Fraction(*crest[3]) <= at <= Fraction(*crest[4]) for crest in mine)
                    self.assertIs(told_so, is_crest_point(yard, paces, met, x, y))
                    if told_so:
                        self.assertEqual(height(yard, paces, told(x), told(y)), met[0])
                        self.assertTrue(all(front in touched(yard, paces, told(x), told(y)) for front in met[1:]))

    def test_at_all_points_of_small_yards(self):
        for name in ("ell", "cup", "cross", "touch", "zed", "wide ring"):
            yard = SHAPES[name]
            for paces in PACES[:3]:
                all_crests = crests(yard, paces)
                for met in meetings(yard, paces):
                    way = met[1][0] % 2
                    line = moving_line(paces, met[1], Fraction(*met[0]))
                    mine = [crest for crest in all_crests if crest[:3] == met]
                    down, up = paces[1 - way] * Fraction(*met[0]), paces[3 - way] * Fraction(*met[0])
                    for at in places([one + by for one in worth(yard[1 - way]) for by in (0, down, -up)]):
                        x, y = (line, at) if way == 0 else (at, line)
                        told_so = any(Fraction(*crest[3]) <= at <= Fraction(*crest[4]) for crest in mine)
                        self.assertIs(told_so, is_crest_point(yard, paces, met, x, y))

    def test_form_and_order(self):
        for yard, paces in cases():
            all_crests = crests(yard, paces)
            self.assertEqual(all_crests, sorted(all_crests, key=crest_rank))
            for crest in all_crests:
                self.assertIn(crest[:3], meetings(yard, paces))
                self.assertLessEqual(Fraction(*crest[3]), Fraction(*crest[4]))
            for one, other in zip(all_crests, all_crests[1:]):
                if one[:3] == other[:3]:
                    self.assertLess(Fraction(*one[4]), Fraction(*other[3]))

    def test_brought_elsewhere(self):
        for yard, paces in cases(6):
            for brought in bringings(yard, paces):
                self.assertEqual(crests(brought.yard, brought.paces), brought.crests(crests(yard, paces)))


class HighestTest(unittest.TestCase):
    def test_void_yard(self):
        self.assertIsNone(highest(VOID, (1, 2, 3, 4)))

    def test_hall(self):
        east, north, west, south = fronts(HALL)
        self.assertEqual(highest(HALL, ONES), ((3, 1), ((3, 1), north, south, (3, 1), (7, 1))))
        self.assertEqual(highest(SQUARE, ONES), ((1, 2), ((1, 2), (EAST, NOUGHT), (WEST, ONE), (1, 2), (1, 2))))

    def test_first_crest_of_the_greatest_height(self):
        self.assertEqual(highest(TWO_ROOMS, ONES)[1], ((3, 1), (EAST, NOUGHT), (WEST, (6, 1)), (3, 1), (3, 1)))
        for yard, paces in cases():
            if yard != VOID:
                top = max(Fraction(*crest[0]) for crest in crests(yard, paces))
                first = [crest for crest in crests(yard, paces) if Fraction(*crest[0]) == top][0]
                self.assertEqual(highest(yard, paces), (told(top), first))

    def test_the_cut_ends_there(self):
        for yard, paces in cases():
            if yard != VOID:
                top = highest(yard, paces)[0]
                self.assertEqual(top, levels(yard, paces)[-1][0])
                self.assertEqual(cut(yard, paces, top), VOID)
                self.assertNotEqual(cut(yard, paces, told(Fraction(*top) * Fraction(999, 1000))), VOID)

    def test_no_point_is_higher(self):
        dice = random.Random(133)
        for yard, paces in cases():
            if yard != VOID:
                top = Fraction(*highest(yard, paces)[0])
                many = points_of(yard)
                for x, y in dice.sample(many, min(30, len(many))):
                    self.assertLessEqual(expected_height(yard, paces, x, y), top)

    def test_greatest_box_lies_in_the_yard(self):
        for yard, paces in cases():
            if yard == VOID:
                continue
            top, (again, one, other, begin, end) = highest(yard, paces)
            line = told(moving_line(paces, one, Fraction(*top)))
            for at in (begin, end):
                point = (line, at) if one[0] == EAST else (at, line)
                self.assertEqual(height(yard, paces, *point), top)
                self.assertEqual(lies(yard, *point), "in")
                self.assertEqual(again, top)

    def test_many_fronts_and_sixty_figures(self):
        for yard in list(GREAT.values()) + [HUGE]:
            for paces in PACES[:2]:
                top = highest(yard, paces)[0]
                self.assertEqual(cut(yard, paces, top), VOID)
                self.assertNotEqual(cut(yard, paces, told(Fraction(*top) * Fraction(999, 1000))), VOID)

    def test_brought_elsewhere(self):
        for yard, paces in cases(6):
            for brought in bringings(yard, paces):
                top = highest(yard, paces)
                if top is not None:
                    same = [brought.crest(crest) for crest in crests(yard, paces) if crest[0] == top[0]]
                    top = (brought.height(top[0]), sorted(same, key=crest_rank)[0])
                self.assertEqual(highest(brought.yard, brought.paces), top)


class KeptTest(unittest.TestCase):
    def test_what_is_handed_in_stays_and_what_is_told_is_the_asker_s_own(self):
        yard, paces = copy.deepcopy(TWO_ROOMS), (1, 2, 3, 4)
        before = copy.deepcopy((yard, paces))
        for ask in (ridges, crests):
            first = ask(yard, paces)
            kept = copy.deepcopy(first)
            first.clear()
            self.assertEqual(ask(yard, paces), kept)
        self.assertEqual(highest(yard, paces), highest(yard, paces))
        self.assertEqual((yard, paces), before)


if __name__ == "__main__":
    unittest.main()
