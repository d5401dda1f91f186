"""Point [4] over the whole program: what its parts tell is held against one another."""

import random
import unittest
from fractions import Fraction
from itertools import product

from roofridges.coverings import is_covering, strip_size, strip_volume
from roofridges.cuts import cut
from roofridges.errors import NoPoint
from roofridges.fronts import corners, fronts, sides
from roofridges.heights import height, paper, shows, touched
from roofridges.levels import levels, line_at, meetings, strips
from roofridges.likeness import likeness, shows_likeness
from roofridges.moves import mirrored, mirrored_paces, moved, turned, turned_paces
from roofridges.pieces import holes, pieces
from roofridges.rain import rain
from roofridges.ridges import crests, highest, ridges
from roofridges.sets import both
from roofridges.sums import size_at, volume
from roofridges.yards import lies, size
from tests.helpers import (
    GREAT, PACES, SHAPES, VOID, box_lies_in, drawn, expected_touch, heights_between, meeting_heights, moving_line, points_of,
    some_yards, told, worth)

NOUGHT = (0, 1)
ROOMY = [
    drawn([0, 4, 6, 10], [0, 4, 6, 10], ["###", "#.#", "###"]),
    drawn([0, 6, 8, 14], [0, 2, 4, 6], ["#.#", "###", "#.#"]),
    drawn([0, 5, 7, 13, 16], [0, 3, 8, 9, 20], ["####", "#.#.", "####", ".##."]),
    drawn([-9, 0, 9], [0, 4, 8, 12], [".#", "##", ".#"]),
    drawn([0, 2, 3, 9, 11], [0, 1, 6, 7, 12], ["#.##", "####", ".#.#", "##.#"]),
]


def yards():
    return list(SHAPES.values()) + ROOMY + some_yards(181, 12) + list(GREAT.values())[1:2]


def cases(seed=0):
    for place, yard in enumerate(yards()):
        yield yard, PACES[(place + seed) % len(PACES)], random.Random(seed + place)


def points(yard, dice, count=8):
    """Points of and between the lines, and points anywhere between the outermost ones."""
    if yard == VOID:
        return [(Fraction(0), Fraction(0))]
    many = points_of(yard)
    ends = [(worth(lines)[0], worth(lines)[-1]) for lines in yard[:2]]
    anywhere = [tuple(low + (high - low) * dice.randint(1, 59) / 60 for low, high in ends) for one in range(count)]
    return dice.sample(many, min(count, len(many))) + anywhere


def point_of(front, line, at):
    return (line, at) if front[0] % 2 == 0 else (at, line)


class WholeTest(unittest.TestCase):
    def test_papers_show_heights_and_whatever_paper_is_let_by_does(self):
        for yard, paces, dice in cases():
            for x, y in points(yard, dice, 5):
                point = (told(x), told(y))
                if lies(yard, *point) == "out":
                    self.assertRaises(NoPoint, paper, yard, paces, *point)
                    continue
                here, side = paper(yard, paces, *point)
                self.assertTrue(box_lies_in(yard, paces, x, y, Fraction(*here)))
                self.assertTrue(expected_touch(paces, x, y, Fraction(*here), side))
                for at in (NOUGHT, here, told(Fraction(*here) / 2), told(Fraction(*here) + 1)):
                    shown = [one[:2] for one in sides(yard) if shows(yard, paces, *point, (at, one))]
                    self.assertEqual(bool(shown), at == here)
                    self.assertTrue(at != here or set(shown) == set(touched(yard, paces, *point)))

    def test_cuts_lie_where_the_roof_is_higher(self):
        for yard, paces, dice in cases(1):
            for x, y in points(yard, dice, 5):
                here = height(yard, paces, told(x), told(y))
                for at in (told(Fraction(*here) * Fraction(9, 10)), here):
                    self.assertEqual(lies(cut(yard, paces, at), told(x), told(y)) == "in", Fraction(*here) > Fraction(*at))

    def test_what_two_yards_have_in_common(self):
        many = yards()
        for place, (one, other) in enumerate(zip(many, many[4:] + many[:4])):
            paces, common = PACES[place % 5], both(one, other)
            for at in ((1, 5), (3, 4)):
                self.assertEqual(cut(common, paces, at), both(cut(one, paces, at), cut(other, paces, at)))
            tops = [Fraction(*highest(yard, paces)[0]) if yard != VOID else 0 for yard in (one, other, common)]
            self.assertLessEqual(tops[2], min(tops[:2]))

    def test_only_at_meetings_does_anything_change(self):
        for yard, paces, dice in cases(2):
            heights = meeting_heights(paces, fronts(yard))
            lines = [told(one) for one in heights]
            self.assertEqual([level[0] for level in levels(yard, paces) if level[0] not in lines], [])
            for low, high in list(zip(heights, heights[1:]))[:6]:
                shapes = {tuple(cut(yard, paces, told(low + (high - low) * part / 5))[2]) for part in (1, 3, 4)}
                self.assertEqual(len(shapes), 1)

    def test_each_point_lies_under_a_strip_s_front_at_its_height(self):
        for yard, paces, dice in cases(3):
            all_strips = strips(yard, paces)
            met = [meeting[0] for meeting in meetings(yard, paces)]
            for x, y in points(yard, dice):
                here = height(yard, paces, told(x), told(y))
                if lies(yard, told(x), told(y)) != "in" or here in met:
                    continue
                at, under = Fraction(*here), []
                for front, first, last, low, high in all_strips:
                    across, along = (x, y) if front[0] % 2 == 0 else (y, x)
                    if Fraction(*low) < at < Fraction(*high) and moving_line(paces, front, at) == across:
                        if moving_line(paces, first, at) <= along <= moving_line(paces, last, at):
                            under.append(front)
                self.assertTrue(under)
                self.assertTrue(all(front in touched(yard, paces, told(x), told(y)) for front in under))

    def test_strips_cover_the_yard_once(self):
        for yard, paces, dice in cases(4):
            all_strips = strips(yard, paces)
            self.assertIs(is_covering(yard, paces, all_strips), True)
            self.assertEqual(told(sum((Fraction(*strip_size(paces, strip)) for strip in all_strips), Fraction(0))), size(yard))
            together = sum((Fraction(*strip_volume(paces, strip)) for strip in all_strips), Fraction(0))
            self.assertEqual(told(together), volume(yard, paces))

    def test_ridges_and_sides_of_each_cut(self):
        for yard, paces, dice in cases(5):
            all_ridges, all_strips = ridges(yard, paces), strips(yard, paces)
            for at in heights_between(meeting_heights(paces, fronts(yard)), [Fraction(1, 2)]):
                left = cut(yard, paces, told(at))
                kinds = [ridge[0] for ridge in all_ridges if Fraction(*ridge[3]) < at < Fraction(*ridge[4])]
                there = [strip for strip in all_strips if Fraction(*strip[3]) < at < Fraction(*strip[4])]
                self.assertEqual(len(kinds), len(there))
                self.assertEqual(kinds.count("ridge") - kinds.count("valley"), 4 * (len(pieces(left)) - len(holes(left))))
                self.assertEqual([corner for corner in corners(left) if corner[2] == "touch"], [])

    def test_along_ridges_both_fronts_are_touched(self):
        for yard, paces, dice in cases(6):
            for kind, one, other, low, high in ridges(yard, paces)[::2]:
                at = told((Fraction(*low) * 2 + Fraction(*high)) / 3)
                point = (line_at(paces, one, at), line_at(paces, other, at))
                self.assertEqual(height(yard, paces, *point), at)
                self.assertTrue({one, other} <= set(touched(yard, paces, *point)))

    def test_crests_lie_where_a_cut_shuts(self):
        for yard, paces, dice in cases(7):
            for at, one, other, begin, end in crests(yard, paces):
                line = line_at(paces, one, at)
                self.assertEqual(line, line_at(paces, other, at))
                for along in (begin, end, told((Fraction(*begin) + Fraction(*end)) / 2)):
                    point = point_of(one, line, along)
                    self.assertEqual(height(yard, paces, *point), at)
                    self.assertEqual(lies(cut(yard, paces, told(Fraction(*at) * Fraction(99, 100))), *point), "in")
                    self.assertNotEqual(lies(cut(yard, paces, at), *point), "in")

    def test_the_top_is_where_all_ends(self):
        for yard, paces, dice in cases(8):
            if yard == VOID:
                self.assertEqual((highest(yard, paces), levels(yard, paces), volume(yard, paces)), (None, [], NOUGHT))
                continue
            top = highest(yard, paces)[0]
            self.assertEqual(levels(yard, paces)[-1], (top, 0, 0, 0))
            self.assertEqual(max(Fraction(*strip[4]) for strip in strips(yard, paces)), Fraction(*top))
            self.assertEqual(size_at(yard, paces, top), NOUGHT)
            # No roof is as high as its top all over.
            self.assertLess(Fraction(*volume(yard, paces)), Fraction(*size(yard)) * Fraction(*top))
            for x, y in points(yard, dice):
                self.assertLessEqual(Fraction(*height(yard, paces, told(x), told(y))), Fraction(*top))

    def test_no_hole_is_ever_born(self):
        for yard, paces, dice in cases(9):
            counts = [level[2] for level in levels(yard, paces)]
            self.assertEqual(counts, sorted(counts, reverse=True))
            self.assertTrue(not counts or counts[0] <= len(holes(yard)))

    def test_rain_goes_down_all_the_way_to_a_side(self):
        for yard, paces, dice in cases(10):
            for x, y in points(yard, dice):
                point = (told(x), told(y))
                if lies(yard, *point) == "out":
                    self.assertRaises(NoPoint, rain, yard, paces, *point)
                    continue
                way = rain(yard, paces, *point)
                self.assertEqual(way[0], point + (height(yard, paces, *point),))
                self.assertEqual(way[-1][2], NOUGHT)
                facing, line = touched(yard, paces, *point)[0]
                self.assertIn((facing, line), touched(yard, paces, *way[-1][:2]))
                for here, there in zip(way, way[1:]):
                    self.assertEqual(height(yard, paces, *there[:2]), there[2])
                    gone = Fraction(*here[facing % 2]) - Fraction(*there[facing % 2])
                    self.assertEqual(abs(gone), paces[facing] * (Fraction(*here[2]) - Fraction(*there[2])))

    def test_alike_yards_have_alike_roofs(self):
        for yard, paces, dice in cases(11):
            other, other_paces = yard, paces
            if dice.randint(0, 1):
                other, other_paces = mirrored(other), mirrored_paces(other_paces)
            for count in range(dice.randint(0, 3)):
                other, other_paces = turned(other), turned_paces(other_paces)
            other = moved(other, (dice.randint(-9, 9), 1), (dice.randint(-9, 9), 1))
            answer = likeness(yard, other)
            self.assertEqual(answer[0], "same")
            self.assertIs(shows_likeness(yard, other, answer), True)
            self.assertEqual([level for level in levels(yard, paces)], levels(other, other_paces))
            self.assertEqual(volume(yard, paces), volume(other, other_paces))
            self.assertEqual((highest(yard, paces) or [None])[0], (highest(other, other_paces) or [None])[0])
            self.assertEqual(len(crests(yard, paces)), len(crests(other, other_paces)))

    def test_any_two_yards_are_told_alike_or_unlike(self):
        many = yards()[::3]
        for one, other in product(many, many):
            answer = likeness(one, other)
            self.assertIs(shows_likeness(one, other, answer), True)
            # What tells that two are alike, or not, tells nothing else of two others.
            if answer[0] == "unlike":
                self.assertIs(shows_likeness(one, one, answer), False)
                self.assertIs(shows_likeness(other, other, answer), False)
                self.assertEqual(likeness(other, one)[0], "unlike")


if __name__ == "__main__":
    unittest.main()
