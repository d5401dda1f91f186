"""Points [2], [3] and [14]: rims."""

import copy
import unittest
from collections import Counter
from fractions import Fraction

from roofridges.fronts import corners, sides
from roofridges.moves import moved
from roofridges.pieces import holes, pieces
from roofridges.rims import rims
from roofridges.yards import size
from tests.helpers import GREAT, RING, SHAPES, VOID, all_yards, drawn, grids, looker, on_grid, worth


def legs(ring):
    """The ways from each point to the one that comes next, the last one to the first."""
    return list(zip(ring, ring[1:] + ring[:1]))


def spots(ring):
    return [(Fraction(*x), Fraction(*y)) for x, y in ring]


def shut_in(ring):
    """The size that a ring shuts in, below nought where it goes round with its inside at the right hand."""
    return sum(x1 * y2 - x2 * y1 for (x1, y1), (x2, y2) in legs(spots(ring))) / 2


def side_of(begin, end):
    """The side along which one goes from a point to another, the yard at the left hand."""
    (x1, y1), (x2, y2) = begin, end
    if y1 == y2:
        return (1, y1, x1, x2) if Fraction(*x1) < Fraction(*x2) else (3, y1, x2, x1)
    return (2, x1, y1, y2) if Fraction(*y1) < Fraction(*y2) else (0, x1, y2, y1)


def points(*pairs):
    return [((x, 1), (y, 1)) for x, y in pairs]


class RimsTest(unittest.TestCase):
    def test_void_yard(self):
        self.assertEqual(rims(VOID), [])

    def test_square(self):
        self.assertEqual(rims(drawn([-3, 4], [5, 9], ["#"])), [points((-3, 5), (4, 5), (4, 9), (-3, 9))])

    def test_corner_in(self):
        self.assertEqual(rims(on_grid(["#.", "##"])), [points((0, 0), (1, 0), (1, 1), (2, 1), (2, 2), (0, 2))])

    def test_begins_at_the_least_x_and_of_these_the_least_y(self):
        self.assertEqual(rims(on_grid([".#.", "###", ".#."])), [points(
            (0, 1), (1, 1), (1, 0), (2, 0), (2, 1), (3, 1), (3, 2), (2, 2), (2, 3), (1, 3), (1, 2), (0, 2))])
        self.assertEqual(rims(on_grid(["##", ".#", "##"]))[0][:3], points((0, 0), (2, 0), (2, 3)))
        parted = drawn([Fraction(-1, 2), Fraction(-1, 3), 1], [Fraction(1, 3), Fraction(1, 2), 1], [".#", "##"])
        self.assertEqual(rims(parted)[0][:2], [((-1, 2), (1, 2)), ((-1, 3), (1, 2))])

    def test_hole_is_gone_round_the_other_way(self):
        self.assertEqual(rims(RING), [
            points((0, 0), (3, 0), (3, 3), (0, 3)), points((1, 1), (1, 2), (2, 2), (2, 1))])

    def test_touch_of_two_pieces_is_come_to_by_two_rings(self):
        self.assertEqual(rims(SHAPES["touch"]), [
            points((0, 0), (1, 0), (1, 1), (0, 1)), points((1, 1), (2, 1), (2, 2), (1, 2))])
        self.assertEqual(rims(SHAPES["other touch"]), [
            points((0, 1), (1, 1), (1, 2), (0, 2)), points((1, 0), (2, 0), (2, 1), (1, 1))])

    def test_touch_of_one_piece_is_come_to_twice_by_one_ring(self):
        self.assertEqual(rims(SHAPES["hole at a touch"]), [points(
            (0, 0), (2, 0), (2, 1), (1, 1), (1, 2), (2, 2), (2, 1), (3, 1), (3, 3), (0, 3))])

    def test_touch_in_a_hole_is_come_to_twice_by_one_ring(self):
        self.assertEqual(rims(SHAPES["two holes that touch"])[1], points(
            (1, 1), (1, 2), (2, 2), (2, 3), (3, 3), (3, 2), (2, 2), (2, 1)))

    def test_touch_of_a_piece_and_the_hole_that_it_lies_in(self):
        self.assertEqual(rims(SHAPES["piece in a hole at a corner"]), [
            points((0, 0), (5, 0), (5, 5), (0, 5)), points((1, 1), (1, 4), (3, 4), (3, 3), (4, 3), (4, 1)),
            points((2, 2), (3, 2), (3, 3), (2, 3))])

    def test_sorted_by_the_first_points(self):
        self.assertEqual([ring[0] for ring in rims(SHAPES["chess"])], points((0, 0), (0, 2), (1, 1), (2, 0), (2, 2)))
        self.assertEqual([ring[0] for ring in rims(GREAT["twelve lines of rings"])], points(
            (0, 0), (1, 1), (2, 2), (3, 3), (4, 4), (5, 5)))
        parted = drawn([0, Fraction(1, 3), Fraction(1, 2), 1], [Fraction(-1, 2), Fraction(-1, 3), 0, 1], ["#.#", "...", "#.#"])
        self.assertEqual([ring[0] for ring in rims(parted)], [
            ((0, 1), (-1, 2)), ((0, 1), (0, 1)), ((1, 2), (-1, 2)), ((1, 2), (0, 1))])

    def check(self, yard):
        rings = rims(yard)
        self.assertIsInstance(rings, list)
        self.assertTrue(all(isinstance(ring, list) and all(isinstance(point, tuple) for point in ring) for ring in rings))
        self.assertEqual(len(rings), len(pieces(yard)) + len(holes(yard)))
        # Each side once, and with the yard at the left hand.
        gone = [side_of(begin, end) for ring in rings for begin, end in legs(ring)]
        self.assertEqual(sorted(gone), sorted(sides(yard)))
        # Each corner as often as one comes to it.
        comings = Counter(point for ring in rings for point in ring)
        self.assertEqual(comings, {(x, y): 2 if kind == "touch" else 1 for x, y, kind in corners(yard)})
        for ring in rings:
            self.assertEqual(spots(ring)[0], min(spots(ring)))
        firsts = [spots(ring)[0] for ring in rings]
        self.assertEqual(firsts, sorted(set(firsts)))
        self.assertEqual(sum(shut_in(ring) for ring in rings), Fraction(*size(yard)))
        self.check_turns(yard, rings)

    def check_turns(self, yard, rings):
        """At a touch one turns left."""
        touches = {(x, y) for x, y, kind in corners(yard) if kind == "touch"}
        for ring in rings:
            for before, at, behind in zip(ring[-1:] + ring[:-1], ring, ring[1:] + ring[:1]):
                if at in touches:
                    (x0, y0), (x1, y1), (x2, y2) = spots([before, at, behind])
                    self.assertGreater((x1 - x0) * (y2 - y1) - (y1 - y0) * (x2 - x1), 0)

    def test_by_the_words_of_the_document(self):
        for yard in all_yards():
            self.check(yard)

    def test_small_grids(self):
        for rows in grids(3, 3) + grids(4, 3)[1::7]:
            self.check(on_grid(rows))

    def test_the_yard_lies_at_the_left_hand(self):
        for yard in all_yards():
            look = looker(yard)
            gaps = [high - low for lines in yard[:2] for low, high in zip(worth(lines), worth(lines)[1:])]
            for ring in rims(yard):
                for (x1, y1), (x2, y2) in legs(spots(ring)):
                    # A step beyond the begin, so short that it stays within the first cells at the side.
                    little = min(gaps) / 4
                    along = ((x2 > x1) - (x2 < x1), (y2 > y1) - (y2 < y1))
                    x, y = x1 + along[0] * little, y1 + along[1] * little
                    self.assertTrue(look(x - along[1] * little, y + along[0] * little))
                    self.assertFalse(look(x + along[1] * little, y - along[0] * little))

    def test_each_ring_is_one_piece_s(self):
        for yard in all_yards():
            self.assertEqual(sorted(ring for part in pieces(yard) for ring in rims(part)), sorted(rims(yard)))

    def test_sizes_shut_in(self):
        for yard in all_yards():
            ringed = [shut_in(ring) for ring in rims(yard)]
            self.assertEqual(len([worth_of_it for worth_of_it in ringed if worth_of_it > 0]), len(pieces(yard)))
            self.assertEqual(sorted(-worth_of_it for worth_of_it in ringed if worth_of_it < 0),
                             sorted(-shut_in(ring) for part in pieces(yard) for ring in rims(part) if shut_in(ring) < 0))
        self.assertEqual([shut_in(ring) for ring in rims(SHAPES["ring in ring"])], [49, -25, 9, -1])

    def test_moved_yards_have_moved_rims(self):
        for yard in all_yards()[::3]:
            brought = [[(x + Fraction(1, 3), y - Fraction(5, 2)) for x, y in spots(ring)] for ring in rims(yard)]
            self.assertEqual([spots(ring) for ring in rims(moved(yard, (1, 3), (-5, 2)))], brought)

    def test_what_was_told_is_the_asker_s_own(self):
        yard = copy.deepcopy(RING)
        first = rims(yard)
        before = copy.deepcopy(first)
        first[0].reverse()
        first[1].clear()
        first.append([])
        self.assertEqual(rims(yard), before)
        self.assertEqual(yard, RING)


if __name__ == "__main__":
    unittest.main()
