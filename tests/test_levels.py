"""Points [2], [3], [4], [10], [11] and [20] to [22]: moving lines, meetings, strips, levels."""

import copy
import unittest
from fractions import Fraction

from roofridges.cuts import cut
from roofridges.fronts import fronts, sides
from roofridges.levels import lasting, levels, line_at, meetings, strips
from roofridges.pieces import holes, pieces
from tests.helpers import (
    BIG, GREAT, HUGE, PACES, RING, SHAPES, SQUARE, VOID, bringings, drawn, front_rank, heights_between, meeting_heights,
    moving_line, on_grid, some_yards, strip_rank, told)

EAST, NORTH, WEST, SOUTH = range(4)
ONES = (1, 1, 1, 1)
NOUGHT = (0, 1)
ONE = (1, 1)
HALL = drawn([0, 10], [0, 6], ["#"])
ELL = drawn([0, 4, 10], [0, 4, 10], ["#.", "##"])
TWO_ROOMS = drawn([0, 6, 8, 14], [0, 2, 4, 6], ["#.#", "###", "#.#"])
# The corridor is shut in the middle by a pillar, so the hole comes to the wall at one height, its other end later.
PILLAR = drawn([0, 3, 5, 12], [0, 2, 4, 10], ["###", "#.#", "###"])


def cases():
    for place, yard in enumerate(list(SHAPES.values()) + [HALL, ELL, TWO_ROOMS, PILLAR] + some_yards(101, 16, 6)):
        yield yard, PACES[place % len(PACES)]
    for place, yard in enumerate(list(SHAPES.values()) + list(GREAT.values())[1:3]):
        yield yard, PACES[(place + 1) % len(PACES)]


def there(paces, strip, height):
    """The side that a strip tells at a height, if it is there."""
    front, first, last, low, high = strip
    if not Fraction(*low) < height < Fraction(*high):
        return None
    ends = [told(moving_line(paces, end, height)) for end in (first, last)]
    return (front[0], told(moving_line(paces, front, height)), ends[0], ends[1])


class LineAtTest(unittest.TestCase):
    def test_each_facing_by_its_own_pace(self):
        paces = (2, 3, 5, 7)
        for front, expected in [((EAST, ONE), (2, 1)), ((NORTH, ONE), (5, 2)), ((WEST, ONE), (-3, 2)), ((SOUTH, ONE), (-5, 2))]:
            self.assertEqual(line_at(paces, front, (1, 2)), expected)

    def test_nought_is_the_line_itself(self):
        for facing in range(4):
            for line in [NOUGHT, (7, 3), (-7, 3), (BIG, 1), (-1, BIG)]:
                self.assertEqual(line_at((1, 2, 3, 4), (facing, line), NOUGHT), line)

    def test_parted_and_below_nought(self):
        self.assertEqual(line_at((9, 1, 1, 1), (EAST, (-7, 2)), (1, 6)), (-2, 1))
        self.assertEqual(line_at((1, 1, 1, 4), (SOUTH, (-1, 3)), (1, 12)), (-2, 3))
        self.assertEqual(line_at((1, 1, 4, 1), (WEST, (2, 1)), (1, 2)), NOUGHT)

    def test_sixty_figures(self):
        for facing in range(4):
            for line, height in [((BIG, 7), (BIG - 1, BIG)), ((-1, BIG), (BIG, 1)), ((BIG - 1, BIG), (1, BIG - 1))]:
                expected = moving_line((9, 4, 7, 2), (facing, line), Fraction(*height))
                self.assertEqual(line_at((9, 4, 7, 2), (facing, line), height), told(expected))


class MeetingsTest(unittest.TestCase):
    def test_hall(self):
        east, north, west, south = fronts(HALL)
        self.assertEqual(meetings(HALL, ONES), [((3, 1), north, south), ((5, 1), east, west)])
        self.assertEqual(meetings(HALL, (1, 2, 3, 4)), [((1, 1), north, south), ((5, 2), east, west)])
        self.assertEqual(meetings(HALL, (9, 1, 9, 1)), [((5, 9), east, west), ((3, 1), north, south)])

    def test_of_one_height_by_their_fronts(self):
        east, north, west, south = fronts(SQUARE)
        self.assertEqual(meetings(SQUARE, ONES), [((1, 2), east, west), ((1, 2), north, south)])
        self.assertEqual([(one[1], other[1]) for height, one, other in meetings(on_grid(["#.#"]), ONES)][:3], [
            (NOUGHT, ONE), ((2, 1), (3, 1)), (NOUGHT, ONE)])

    def test_pairs_whose_sides_never_come_together(self):
        apart = on_grid(["#.", "..", ".#"])
        told_pairs = [(one, other) for height, one, other in meetings(apart, ONES)]
        self.assertIn(((EAST, NOUGHT), (WEST, (2, 1))), told_pairs)
        self.assertIn(((NORTH, NOUGHT), (SOUTH, (3, 1))), told_pairs)

    def test_none_that_part_or_lie_on_one_line(self):
        self.assertEqual(len(meetings(RING, ONES)), 6)
        touch = [(one, other) for height, one, other in meetings(SHAPES["touch"], ONES)]
        self.assertNotIn(((EAST, ONE), (WEST, ONE)), touch)
        self.assertEqual(len(touch), 6)

    def test_void_yard(self):
        self.assertEqual(meetings(VOID, (1, 2, 3, 4)), [])

    def test_all_pairs_by_the_words_of_the_document(self):
        for yard, paces in cases():
            expected = []
            for one in fronts(yard):
                for other in fronts(yard):
                    way = Fraction(*other[1]) - Fraction(*one[1])
                    if (one[0], other[0]) in ((EAST, WEST), (NORTH, SOUTH)) and way > 0:
                        expected.append((told(way / (paces[one[0]] + paces[other[0]])), one, other))
            expected.sort(key=lambda met: (Fraction(*met[0]), front_rank(met[1]), front_rank(met[2])))
            self.assertEqual(meetings(yard, paces), expected)

    def test_both_lines_are_one_there(self):
        for yard, paces in cases():
            for height, one, other in meetings(yard, paces):
                self.assertEqual(line_at(paces, one, height), line_at(paces, other, height))

    def test_sixty_figures(self):
        for height, one, other in meetings(HUGE, (9, 1, 4, 7)):
            self.assertEqual(moving_line((9, 1, 4, 7), one, Fraction(*height)), moving_line((9, 1, 4, 7), other, Fraction(*height)))
            self.assertEqual(told(Fraction(*height)), height)


class StripsTest(unittest.TestCase):
    def test_one_cell(self):
        east, north, west, south = fronts(HALL)
        for paces, high in [(ONES, (3, 1)), ((1, 2, 3, 4), ONE), ((9, 1, 9, 1), (5, 9))]:
            self.assertEqual(strips(HALL, paces), [
                (east, north, south, NOUGHT, high), (north, east, west, NOUGHT, high),
                (west, north, south, NOUGHT, high), (south, east, west, NOUGHT, high)])

    def test_void_yard(self):
        self.assertEqual(strips(VOID, (1, 2, 3, 4)), [])

    def test_rooms_that_fall_apart(self):
        told_strips = strips(TWO_ROOMS, ONES)
        floor = (NORTH, NOUGHT)
        self.assertEqual([strip for strip in told_strips if strip[0] == floor], [
            (floor, (EAST, NOUGHT), (WEST, (6, 1)), NOUGHT, (3, 1)),
            (floor, (EAST, (8, 1)), (WEST, (14, 1)), NOUGHT, (3, 1))])
        # The west wall of the first room is one side all the way; its east wall is two till the door is shut.
        self.assertEqual([strip for strip in told_strips if strip[0] == (EAST, NOUGHT)], [
            ((EAST, NOUGHT), floor, (SOUTH, (6, 1)), NOUGHT, (3, 1))])
        self.assertEqual([strip for strip in told_strips if strip[0] == (WEST, (6, 1))], [
            ((WEST, (6, 1)), floor, (NORTH, (2, 1)), NOUGHT, ONE),
            ((WEST, (6, 1)), (SOUTH, (4, 1)), (SOUTH, (6, 1)), NOUGHT, ONE),
            ((WEST, (6, 1)), floor, (SOUTH, (6, 1)), ONE, (3, 1))])
        self.assertEqual([strip for strip in told_strips if strip[0] == (NORTH, (2, 1))], [
            ((NORTH, (2, 1)), (WEST, (6, 1)), (EAST, (8, 1)), NOUGHT, ONE)])

    def test_across_a_meeting_that_does_nothing_to_it(self):
        # In the second room nothing changes where the first one ends.
        apart = drawn([0, 2, 3, 9], [0, 6], ["#.#"])
        second = [strip for strip in strips(apart, ONES) if strip[0] == (WEST, (9, 1))]
        self.assertEqual(second, [((WEST, (9, 1)), (NORTH, NOUGHT), (SOUTH, (6, 1)), NOUGHT, (3, 1))])

    def test_hole_opens_to_the_rim(self):
        levels_there = [level[:3] for level in levels(PILLAR, ONES)]
        self.assertEqual(levels_there[:2], [(NOUGHT, 1, 1), (ONE, 1, 0)])
        ending = [strip for strip in strips(PILLAR, ONES) if strip[0] == (SOUTH, (2, 1))]
        self.assertEqual(ending, [((SOUTH, (2, 1)), (WEST, (3, 1)), (EAST, (5, 1)), NOUGHT, ONE)])

    def test_what_goes_and_comes_again_is_told_twice(self):
        told_at = [(NOUGHT, ["a", "b"]), (ONE, ["b"]), ((2, 1), ["a", "b"]), ((3, 1), [])]
        self.assertEqual(sorted(lasting(told_at)), [
            ("a", NOUGHT, ONE), ("a", (2, 1), (3, 1)), ("b", NOUGHT, (3, 1))])

    def test_each_side_of_the_cut_by_just_one_strip(self):
        for yard, paces in cases():
            told_strips = strips(yard, paces)
            for height in heights_between(meeting_heights(paces, fronts(yard))):
                told_sides = [there(paces, strip, height) for strip in told_strips]
                told_sides = [side for side in told_sides if side is not None]
                self.assertEqual(len(told_sides), len(set(told_sides)))
                self.assertEqual(set(told_sides), set(sides(cut(yard, paces, told(height)))))

    def test_ends_lie_the_other_way(self):
        for yard, paces in cases():
            for front, first, last, low, high in strips(yard, paces):
                self.assertEqual([(front[0] + end[0]) % 2 for end in (first, last)], [1, 1])
                self.assertTrue(all(one in fronts(yard) for one in (front, first, last)))

    def test_as_long_as_can_be_and_at_meetings_alone(self):
        for yard, paces in cases():
            told_strips = strips(yard, paces)
            heights = [told(height) for height in meeting_heights(paces, fronts(yard))]
            begun = [(strip[:3], strip[3]) for strip in told_strips]
            for strip in told_strips:
                self.assertNotIn((strip[:3], strip[4]), begun)
                self.assertTrue(strip[3] in heights and strip[4] in heights)
                self.assertLess(Fraction(*strip[3]), Fraction(*strip[4]))

    def test_sorted(self):
        for yard, paces in cases():
            told_strips = strips(yard, paces)
            self.assertIsInstance(told_strips, list)
            self.assertEqual(told_strips, sorted(told_strips, key=strip_rank))

    def test_holes_and_touches_and_pieces_in_holes(self):
        for name, count in [("ring", 8), ("touch", 8), ("apart", 16), ("chess", 20), ("ring in ring", 16)]:
            self.assertEqual(len(strips(SHAPES[name], ONES)), count)
            self.assertEqual({strip[3:] for strip in strips(SHAPES[name], ONES)}, {(NOUGHT, (1, 2))})

    def test_sixty_figures(self):
        for paces in PACES:
            for height in heights_between(meeting_heights(paces, fronts(HUGE))):
                told_sides = [there(paces, strip, height) for strip in strips(HUGE, paces)]
                self.assertEqual(sorted(side for side in told_sides if side), sorted(sides(cut(HUGE, paces, told(height)))))

    def test_brought_elsewhere(self):
        for yard, paces in cases():
            for brought in bringings(yard, paces):
                self.assertEqual(strips(brought.yard, brought.paces), brought.strips(strips(yard, paces)))


class LevelsTest(unittest.TestCase):
    def test_void_yard(self):
        self.assertEqual(levels(VOID, (1, 2, 3, 4)), [])

    def test_one_cell(self):
        self.assertEqual(levels(HALL, ONES), [(NOUGHT, 1, 0, 4), ((3, 1), 0, 0, 0)])
        self.assertEqual(levels(HALL, (1, 2, 3, 4)), [(NOUGHT, 1, 0, 4), (ONE, 0, 0, 0)])

    def test_pieces_and_holes(self):
        self.assertEqual(levels(TWO_ROOMS, ONES), [(NOUGHT, 1, 0, 12), (ONE, 2, 0, 8), ((3, 1), 0, 0, 0)])
        self.assertEqual(levels(RING, ONES), [(NOUGHT, 1, 1, 8), ((1, 2), 0, 0, 0)])
        self.assertEqual(levels(ELL, ONES), [(NOUGHT, 1, 0, 6), ((2, 1), 1, 0, 4), ((3, 1), 0, 0, 0)])
        self.assertEqual(levels(SHAPES["touch"], ONES), [(NOUGHT, 2, 0, 8), ((1, 2), 0, 0, 0)])
        self.assertEqual(levels(SHAPES["hole at a touch"], ONES), [(NOUGHT, 1, 0, 10), ((1, 2), 0, 0, 0)])

    def test_meeting_at_which_no_strip_begins_or_ends_is_none(self):
        self.assertIn((5, 1), [met[0] for met in meetings(HALL, ONES)])
        self.assertNotIn((5, 1), [level[0] for level in levels(HALL, ONES)])

    def test_by_the_cut_just_above(self):
        for yard, paces in cases():
            changes = {Fraction(*height) for strip in strips(yard, paces) for height in strip[3:]}
            heights = meeting_heights(paces, fronts(yard))
            expected = []
            for height in sorted(changes):
                behind = [one for one in heights if one > height]
                left = cut(yard, paces, told(height + ((behind[0] - height) / 9 if behind else 1)))
                expected.append((told(height), len(pieces(left)), len(holes(left)), len(sides(left))))
            self.assertEqual(levels(yard, paces), expected)
            if yard != VOID:
                self.assertEqual(expected[0][0], NOUGHT)
                self.assertEqual(expected[-1][1:], (0, 0, 0))
                self.assertTrue(all(level[1] > 0 for level in expected[:-1]))

    def test_no_hole_is_born(self):
        for yard, paces in cases():
            counts = [level[2] for level in levels(yard, paces)]
            self.assertEqual(counts, sorted(counts, reverse=True))

    def test_brought_elsewhere(self):
        for yard, paces in cases():
            for brought in bringings(yard, paces):
                expected = [(brought.height(level[0]),) + level[1:] for level in levels(yard, paces)]
                self.assertEqual(levels(brought.yard, brought.paces), expected)


class KeptTest(unittest.TestCase):
    def test_what_is_handed_in_stays_and_what_is_told_is_the_asker_s_own(self):
        yard, paces = copy.deepcopy(TWO_ROOMS), (1, 2, 3, 4)
        before = copy.deepcopy((yard, paces))
        for ask in (meetings, strips, levels):
            first = ask(yard, paces)
            kept = copy.deepcopy(first)
            first.clear()
            self.assertEqual(ask(yard, paces), kept)
        self.assertEqual((yard, paces), before)


if __name__ == "__main__":
    unittest.main()
