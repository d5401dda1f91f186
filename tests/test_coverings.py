"""Points [2], [3], [4], [10], [24] and [25]: sizes and volumes of strips, and coverings."""

import copy
import random
import unittest
from fractions import Fraction

from roofridges.coverings import is_covering, parts_of, strip_size, strip_volume
from roofridges.cuts import cut
from roofridges.fronts import fronts, sides
from roofridges.levels import meetings, strips
from roofridges.sums import volume
from roofridges.yards import size
from tests.helpers import (
    BIG, HUGE, PACES, RING, SHAPES, SQUARE, VOID, bringings, drawn, heights_between, meeting_heights, moving_line, some_yards,
    told)

EAST, NORTH, WEST, SOUTH = range(4)
ONES = (1, 1, 1, 1)
NOUGHT = (0, 1)
HALL = drawn([0, 10], [0, 6], ["#"])
ELL = drawn([0, 4, 10], [0, 4, 10], ["#.", "##"])
TWO_ROOMS = drawn([0, 6, 8, 14], [0, 2, 4, 6], ["#.#", "###", "#.#"])


def cases(seed=121, count=12):
    for place, yard in enumerate(list(SHAPES.values()) + [ELL, TWO_ROOMS] + some_yards(seed, count, 6)):
        yield yard, PACES[place % len(PACES)]


def parted(strip, parts):
    """A strip parted at these parts of its height."""
    low, high = Fraction(*strip[3]), Fraction(*strip[4])
    heights = [low] + sorted(low + (high - low) * part for part in parts) + [high]
    return [strip[:3] + (told(one), told(other)) for one, other in zip(heights, heights[1:])]


def some_parts(dice):
    return {Fraction(dice.randint(1, 99), 100) for count in range(dice.randint(0, 3))}


def expected_sums(paces, strip):
    """Size and volume by the integrals of length and of height times length."""
    front, first, last, low, high = strip
    low, high = Fraction(*low), Fraction(*high)
    at_nought, at_one = [moving_line(paces, last, height) - moving_line(paces, first, height) for height in (0, 1)]
    more, pace = at_one - at_nought, paces[front[0]]
    return (pace * (at_nought * (high - low) + more * (high ** 2 - low ** 2) / 2),
            pace * (at_nought * (high ** 2 - low ** 2) / 2 + more * (high ** 3 - low ** 3) / 3))


def covers(yard, paces, listed):
    """By the words of [25], of a list of tuples that have the form of strips."""
    lows_and_highs = {Fraction(*height) for strip in listed for height in strip[3:]}
    heights = sorted(set(meeting_heights(paces, fronts(yard))) | lows_and_highs)
    for height in heights_between(heights, [Fraction(3, 8)]):
        found = []
        for front, first, last, low, high in listed:
            if Fraction(*low) < height < Fraction(*high):
                if first[0] % 2 == front[0] % 2 or last[0] % 2 == front[0] % 2:
                    return False
                found.append((front[0],) + tuple(told(moving_line(paces, one, height)) for one in (front, first, last)))
        if sorted(found) != sorted(sides(cut(yard, paces, told(height)))):
            return False
    return True


class StripSumsTest(unittest.TestCase):
    def test_hall(self):
        expected = {EAST: (9, 9), NORTH: (21, 27), WEST: (9, 9), SOUTH: (21, 27)}
        for strip in strips(HALL, ONES):
            self.assertEqual((strip_size(ONES, strip), strip_volume(ONES, strip)), tuple(map(told, expected[strip[0][0]])))

    def test_each_pace_by_its_own_facing(self):
        ends = ((NORTH, NOUGHT), (SOUTH, (100, 1)))
        for facing, pace in [(EAST, 2), (WEST, 5)]:
            strip = ((facing, (50, 1)),) + ends + (NOUGHT, (1, 1))
            self.assertEqual(strip_size((2, 3, 5, 7), strip), told(pace * 95))
        ends = ((EAST, NOUGHT), (WEST, (100, 1)))
        for facing, pace in [(NORTH, 3), (SOUTH, 7)]:
            strip = ((facing, (50, 1)),) + ends + ((2, 1), (4, 1))
            self.assertEqual(strip_size((2, 3, 5, 7), strip), told(pace * 2 * (100 - 21)))

    def test_by_integrals(self):
        for yard, paces in cases():
            for strip in strips(yard, paces):
                self.assertEqual((strip_size(paces, strip), strip_volume(paces, strip)), tuple(map(told, expected_sums(paces, strip))))

    def test_parts_come_together_to_the_whole(self):
        dice = random.Random(122)
        for yard, paces in cases():
            for strip in strips(yard, paces)[::3]:
                parts = parted(strip, some_parts(dice))
                for reckon in (strip_size, strip_volume):
                    together = sum(Fraction(*reckon(paces, part)) for part in parts)
                    self.assertEqual(told(together), reckon(paces, strip))
                for part in parts:
                    self.assertEqual(strip_volume(paces, part), told(expected_sums(paces, part)[1]))

    def test_all_strips_together(self):
        for yard, paces in cases():
            all_strips = strips(yard, paces)
            self.assertEqual(told(sum((Fraction(*strip_size(paces, strip)) for strip in all_strips), Fraction(0))), size(yard))
            self.assertEqual(told(sum((Fraction(*strip_volume(paces, strip)) for strip in all_strips), Fraction(0))),
                             volume(yard, paces))

    def test_sixty_figures(self):
        for paces in PACES:
            for strip in strips(HUGE, paces):
                self.assertEqual((strip_size(paces, strip), strip_volume(paces, strip)), tuple(map(told, expected_sums(paces, strip))))

    def test_brought_elsewhere(self):
        for yard, paces in cases(123, 4):
            for brought in bringings(yard, paces):
                as_great = brought.by[0] * brought.by[1]
                for strip in strips(yard, paces)[::4]:
                    self.assertEqual(strip_size(brought.paces, brought.strip(strip)),
                                     told(Fraction(*strip_size(paces, strip)) * as_great))
                    self.assertEqual(strip_volume(brought.paces, brought.strip(strip)),
                                     told(Fraction(*strip_volume(paces, strip)) * as_great * brought.height_by))


class CoveringTest(unittest.TestCase):
    def check(self, yard, paces, thing, expected):
        before = copy.deepcopy(thing)
        self.assertIs(is_covering(yard, paces, thing), expected)
        self.assertEqual(thing, before)

    def test_told_strips(self):
        for yard, paces in cases():
            self.check(yard, paces, strips(yard, paces), True)

    def test_parted_and_in_any_order(self):
        dice = random.Random(124)
        for yard, paces in cases():
            many = [part for strip in strips(yard, paces) for part in parted(strip, some_parts(dice))]
            dice.shuffle(many)
            self.check(yard, paces, many, True)
            self.assertIs(covers(yard, paces, many), True)

    def test_parted_at_meetings(self):
        heights = [met[0] for met in meetings(TWO_ROOMS, (1, 2, 3, 4))]
        many = []
        for strip in strips(TWO_ROOMS, (1, 2, 3, 4)):
            low, high = Fraction(*strip[3]), Fraction(*strip[4])
            inner = [Fraction(*height) for height in heights if low < Fraction(*height) < high]
            many += parted(strip, {(height - low) / (high - low) for height in inner})
        self.assertGreater(len(many), len(strips(TWO_ROOMS, (1, 2, 3, 4))))
        self.check(TWO_ROOMS, (1, 2, 3, 4), many, True)

    def test_void_yard(self):
        self.check(VOID, ONES, [], True)
        self.check(VOID, ONES, strips(SQUARE, ONES), False)
        for thing in [(), None, "", 0, False, [()], [None], [[]]]:
            self.check(VOID, ONES, thing, False)
        self.check(SQUARE, ONES, [], False)

    def bent(self, yard, paces, dice):
        """Lists that are no coverings: a strip left out, told twice, exchanged, moved, put in another's place."""
        all_strips = strips(yard, paces)
        place = dice.randrange(len(all_strips))
        strip, others = all_strips[place], all_strips[:place] + all_strips[place + 1:]
        front, first, last, low, high = strip
        middle = told((Fraction(*low) + Fraction(*high)) / 2)
        more = told(Fraction(*high) * 2)
        yield others
        yield all_strips + [strip]
        yield all_strips + [(front, first, last, low, middle)]
        yield all_strips + [(front, first, last, high, more)]
        yield others + [(front, last, first, low, high)]
        yield others + [(front, first, last, middle, high)]
        yield others + [(front, first, last, low, middle)]
        yield others + [(front, first, last, low, more)]
        yield others + [(front, first, first, low, high)]
        yield others + [(front, first, last, low, middle), (front, first, last, low, high)]
        yield others + [(front, first, last, low, told(Fraction(*high) * Fraction(99, 100))), (front, first, last, middle, high)]
        if low != NOUGHT:
            yield others + [(front, first, last, NOUGHT, high)]
            yield others + [(front, first, last, told(Fraction(*low) * Fraction(99, 100)), high)]
        for another in dice.sample(fronts(yard), 3):
            for bent in [(another, first, last, low, high), (front, another, last, low, high), (front, first, another, low, high)]:
                if bent != strip:
                    yield others + [bent]
                    yield others + [(front, first, last, low, middle), bent[:3] + (middle, high)]

    def test_bent_ones(self):
        dice = random.Random(125)
        for yard, paces in cases():
            if yard == VOID:
                continue
            for count in range(3):
                for bent in self.bent(yard, paces, dice):
                    self.check(yard, paces, bent, False)

    def test_by_the_words_of_the_document(self):
        dice = random.Random(126)
        for yard, paces in list(cases())[1:]:
            for bent in self.bent(yard, paces, dice):
                self.assertIs(covers(yard, paces, bent), False)

    def test_front_of_the_same_way_whose_line_is_as_great(self):
        # Over a square with paces alike, the lines of the fronts east and north are as great at all heights.
        east, north, west, south = fronts(SQUARE)
        right = strips(SQUARE, ONES)
        self.assertEqual(right[0], (east, north, south, NOUGHT, (1, 2)))
        for bent in [(east, east, south, NOUGHT, (1, 2)), (east, north, west, NOUGHT, (1, 2)), (east, east, west, NOUGHT, (1, 2))]:
            self.check(SQUARE, ONES, [bent] + right[1:], False)

    def test_things_of_another_form(self):
        east, north, west, south = fronts(HALL)
        right = strips(HALL, ONES)
        for thing in [None, True, False, 0, 1, "", "strips", (), tuple(right), [right], [None], [0], ["a strip"], [()], [[]]]:
            self.check(HALL, ONES, thing, False)
        high = (3, 1)
        for bent in [
                list(right[0]), right[0][:4], right[0] + (high,), (), None, 7, "text", (east, north, south, NOUGHT, 3),
                (east, north, south, 0, high), (east, north, south, None, high), (east, north, south, (0, 2), high),
                (east, north, south, NOUGHT, (6, 2)), (east, north, south, NOUGHT, (3, 0)), (east, north, south, NOUGHT, (-3, -1)),
                (east, north, south, (False, 1), high), (east, north, south, (0, True), high), (east, north, south, NOUGHT, (3, True)),
                (east, north, south, [0, 1], high), (east, north, south, NOUGHT, [3, 1]), (east, north, south, "0", high),
                (east, north, south, (-1, 1), high), (east, north, south, NOUGHT, NOUGHT), (east, north, south, high, high),
                (east, north, south, high, NOUGHT), (east, north, south, NOUGHT, (-3, 1)),
                ((False, NOUGHT), north, south, NOUGHT, high), (east, (True, NOUGHT), south, NOUGHT, high),
                ((0, (False, 1)), north, south, NOUGHT, high), ((0, (0, True)), north, south, NOUGHT, high),
                ([0, NOUGHT], north, south, NOUGHT, high), ((0, [0, 1]), north, south, NOUGHT, high),
                ((0, 0), north, south, NOUGHT, high), ((0, (0, 2)), north, south, NOUGHT, high), (0, north, south, NOUGHT, high),
                ((0,), north, south, NOUGHT, high), (east + (1,), north, south, NOUGHT, high), (None, north, south, NOUGHT, high),
                ((0, (1, 1)), north, south, NOUGHT, high), ((0, (10, 1)), north, south, NOUGHT, high), ("0", north, south, NOUGHT, high),
                (east, (1, (6, 1)), south, NOUGHT, high), (east, north, (3, NOUGHT), NOUGHT, high), (east, north, None, NOUGHT, high),
                (east, north, (4, (6, 1)), NOUGHT, high), (east, north, (-1, (6, 1)), NOUGHT, high), ("east", north, south, NOUGHT, high),
                (east, north, (BIG, (6, 1)), NOUGHT, high), (east, north, (SOUTH, (6, True)), NOUGHT, high),
                (east, (NORTH, (0, True)), south, NOUGHT, high), (east, north, list(south), NOUGHT, high)]:
            self.check(HALL, ONES, [bent] + right[1:], False)
            self.check(HALL, ONES, right + [bent], False)
        # A truth that is as great as the facing: (True, line) for a front that faces north.
        self.check(HALL, ONES, [right[0], ((True, NOUGHT),) + right[1][1:]] + right[2:], False)

    def test_truths_for_the_facings_of_ends(self):
        # The wall in the south of the second room ends above at a front that faces north.
        door = ((WEST, (6, 1)), (NORTH, NOUGHT), (NORTH, (2, 1)), NOUGHT, (1, 1))
        right = strips(TWO_ROOMS, ONES)
        self.assertIn(door, right)
        others = [strip for strip in right if strip != door]
        self.check(TWO_ROOMS, ONES, others + [door], True)
        self.check(TWO_ROOMS, ONES, others + [door[:2] + ((True, (2, 1)),) + door[3:]], False)
        self.check(TWO_ROOMS, ONES, others + [door[:1] + ((True, NOUGHT),) + door[2:]], False)

    def test_parts_of_one_strip_of_two_with_the_same_fronts(self):
        east, north, west, south = fronts(HALL)
        first, second = [(east, north, south, (low, 1), (low + 2, 1)) for low in (0, 5)]
        parts = parted(first, [Fraction(1, 2)]) + parted(second, [Fraction(1, 3)]) + [(west,) + first[1:]]
        self.assertEqual(parts_of(first, parts), parts[:2])
        self.assertEqual(parts_of(second, parts), parts[2:4])

    def test_deep_things(self):
        thing = []
        for count in range(39):
            thing = [thing] if count % 2 else (thing,)
        self.check(HALL, ONES, thing, False)
        self.check(HALL, ONES, [thing], False)
        right = strips(HALL, ONES)
        self.check(HALL, ONES, [(thing,) + right[0][1:]] + right[1:], False)

    def test_another_yard_s_strips_and_other_paces(self):
        self.check(HALL, (1, 1, 1, 2), strips(HALL, ONES), False)
        self.check(ELL, ONES, strips(TWO_ROOMS, ONES), False)
        self.check(RING, ONES, strips(SQUARE, ONES), False)

    def test_sixty_figures(self):
        for paces in PACES:
            right = strips(HUGE, paces)
            self.check(HUGE, paces, right, True)
            front, first, last, low, high = right[0]
            little_more = told(Fraction(*high) + Fraction(1, BIG))
            self.check(HUGE, paces, [(front, first, last, low, little_more)] + right[1:], False)
            part = told(Fraction(*low) + (Fraction(*high) - Fraction(*low)) / BIG)
            self.check(HUGE, paces, [(front, first, last, part, high)] + right[1:] + [(front, first, last, low, part)], True)

    def test_brought_elsewhere(self):
        for yard, paces in cases(127, 4):
            for brought in bringings(yard, paces):
                there = [brought.strip(strip) for strip in strips(yard, paces)]
                self.check(brought.yard, brought.paces, there, True)
                self.check(brought.yard, brought.paces, there[1:], yard == VOID)


if __name__ == "__main__":
    unittest.main()
