"""What several tests need: yards, points, and looks at them that owe nothing to the program."""

import random
from bisect import bisect_right
from fractions import Fraction
from itertools import product

FAR = 10 ** 9
BIG = 10 ** 60 - 1
VOID = ((), (), ())


def whole(*lines):
    return tuple((line, 1) for line in lines)


def told(worth_of_it):
    """The number of a Fraction, or of what makes one."""
    fraction = Fraction(worth_of_it)
    return (fraction.numerator, fraction.denominator)


def worth(lines):
    return [Fraction(*line) for line in lines]


def grids(wide, high):
    """All lists of rows so wide and so high."""
    texts = ["".join(signs) for signs in product("#.", repeat=wide)]
    return [list(rows) for rows in product(texts, repeat=high)]


def cell_at(xs, ys, rows, x, y):
    """Whether the cell is in that has the point (x, y), which lies on no line, within it."""
    across = bisect_right(xs, x) - 1
    up = bisect_right(ys, y) - 1
    if not (0 <= across < len(xs) - 1 and 0 <= up < len(ys) - 1):
        return False
    return rows[up][across] == "#"


def looker(yard):
    """What tells of a point, two Fractions that lie on no line, whether it is in the yard."""
    xs, ys, rows = worth(yard[0]), worth(yard[1]), yard[2]
    return lambda x, y: cell_at(xs, ys, rows, x, y)


def without_like_neighbours(lines, bands):
    """Lines and bands (rows or columns) without those at an end that are out, and without the second of two alike."""
    lines, bands = list(lines), list(bands)
    while bands and "#" not in bands[0]:
        del bands[0], lines[0]
    while bands and "#" not in bands[-1]:
        del bands[-1], lines[-1]
    for place in range(len(bands) - 1, 0, -1):
        if bands[place] == bands[place - 1]:
            del bands[place], lines[place]
    return (lines, bands) if bands else ([], [])


def drawn(xs, ys, rows):
    """The yard of lines (Fractions or whole numbers) and rows, made tidy; the lowest row comes first."""
    ys, rows = without_like_neighbours(ys, rows)
    xs, columns = without_like_neighbours(xs, ["".join(column) for column in zip(*rows)])
    rows = ["".join(row) for row in zip(*columns)]
    return (tuple(told(x) for x in xs), tuple(told(y) for y in ys), tuple(rows))


def on_grid(rows):
    """The yard of these rows between the lines 0, 1, 2 and so on."""
    return drawn(range(len(rows[0]) + 1), range(len(rows) + 1), rows)


def middles(lines):
    """Fractions between each two neighbouring lines, and one beyond them at each end."""
    if not lines:
        return [Fraction(0)]
    between = [(low + high) / 2 for low, high in zip(lines, lines[1:])]
    return [lines[0] - 1] + between + [lines[-1] + 1]


def places(*many):
    """All lines of these lists of Fractions, what lies between them, and what lies beyond, rising."""
    lines = sorted({line for lines in many for line in lines})
    return sorted(lines + middles(lines))


def points_of(*yards):
    """Points within each cell of all lines, on each stretch of a line, at each crossing, and beyond."""
    xs = places(*[worth(yard[0]) for yard in yards])
    ys = places(*[worth(yard[1]) for yard in yards])
    return list(product(xs, ys))


def spiral(wide):
    """A way, one cell broad, that winds inward and leaves a way as broad between."""
    cells = {(0, 0): True}
    place, step = (0, 0), (1, 0)
    for leg in range(2 * wide):
        for count in range(wide):
            near = (place[0] + step[0], place[1] + step[1])
            far = (near[0] + step[0], near[1] + step[1])
            if not (0 <= near[0] < wide and 0 <= near[1] < wide) or near in cells or far in cells:
                break
            place = near
            cells[place] = True
        step = (-step[1], step[0])
    return ["".join("#" if (across, up) in cells else "." for across in range(wide)) for up in range(wide)]


def chess(wide, high):
    return ["".join("#" if (across + up) % 2 == 0 else "." for across in range(wide)) for up in range(high)]


def nested_rings(wide):
    def sign(across, up):
        return "#" if min(across, up, wide - 1 - across, wide - 1 - up) % 2 == 0 else "."
    return ["".join(sign(across, up) for across in range(wide)) for up in range(wide)]


SQUARE = on_grid(["#"])
RING = on_grid(["###", "#.#", "###"])
PARTED = (
    (told(Fraction(-7, 2)), told(Fraction(1, 3)), told(Fraction(1, 2))),
    (told(Fraction(-5, 3)), told(0), told(Fraction(9, 4))),
    (".#", "#."),
)
HUGE = (((-BIG, 1), (1, BIG), (BIG, 8)), ((-BIG, 8), (BIG - 1, BIG), (BIG, BIG - 1)), ("##", "#."))
SHAPES = {
    "void": VOID,
    "square": SQUARE,
    "bar": drawn([-3, 4], [Fraction(-1, 2), Fraction(-1, 3)], ["#"]),
    "ell": drawn([0, 1, 3], [0, 2, 5], ["#.", "##"]),
    "cup": drawn([-2, 0, 3, 4], [-1, 0, 4], ["###", "#.#"]),
    "tee": drawn([0, 2, 3, 7], [0, 4, 6], [".#.", "###"]),
    "cross": drawn([0, 2, 3, 7], [0, 1, 5, 6], [".#.", "###", ".#."]),
    "zed": drawn([0, 3, 5, 9], [0, 2, 3, 7], ["##.", ".#.", ".##"]),
    "stairs": on_grid(["####", "###.", "##..", "#..."]),
    "comb": drawn([0, 1, 2, 4, 5, 8, 9], [0, 1, 5], ["######", "#.#.#."]),
    "ring": RING,
    "wide ring": drawn([0, 3, 4, 9], [0, 2, 7, 8], ["###", "#.#", "###"]),
    "touch": on_grid(["#.", ".#"]),
    "other touch": on_grid([".#", "#."]),
    "parted touch": PARTED,
    "apart": on_grid(["#.#", "...", "#.#"]),
    "chess": on_grid(chess(3, 3)),
    "other chess": on_grid(["".join("#."[sign == "#"] for sign in row) for row in chess(4, 3)]),
    "two holes that touch": on_grid(["#####", "#.###", "##.##", "#####"]),
    "hole at a touch": on_grid(["##.", "#.#", "###"]),
    "ring shut by a touch": on_grid(["##.", "#.#", ".##"]),
    "ring in ring": on_grid(nested_rings(7)),
    "piece in a hole at a corner": on_grid(["#####", "#...#", "#.#.#", "#..##", "#####"]),
    "huge": HUGE,
}
GREAT = {
    "twelve lines of chess": on_grid(chess(11, 11)),
    "twelve lines of rings": on_grid(nested_rings(11)),
    # Two neighbouring columns of the spiral are alike, and without its lowest row it is one way still.
    "twelve lines of winding": on_grid(spiral(12)[1:]),
    "twelve lines of winding, from the top": on_grid(["".join(reversed(row)) for row in reversed(spiral(12)[1:])]),
}


def some_line(dice, kind):
    if kind == "whole":
        return Fraction(dice.randint(-12, 12))
    if kind == "parted":
        return Fraction(dice.randint(-30, 30), dice.randint(1, 6))
    return Fraction(dice.randint(-BIG, BIG), dice.randint(10 ** 58, BIG))


def some_lines(dice, most, kind):
    return sorted({some_line(dice, kind) for count in range(dice.randint(most // 2, most))})


def some_yard(dice, most=6, kind="whole", filled=5):
    """A yard of at most so many lines each way, about so many tenths of whose cells are in."""
    xs, ys = some_lines(dice, most, kind), some_lines(dice, most, kind)
    rows = ["".join("#" if dice.randint(1, 10) <= filled else "." for x in xs[1:]) for y in ys[1:]]
    return drawn(xs, ys, rows)


def some_yards(seed, count, most=6):
    """Yards of all kinds of lines, fuller and emptier ones; for one seed always the same."""
    dice = random.Random(seed)
    kinds = ["whole", "parted", "whole", "huge"]
    return [some_yard(dice, most, kinds[place % 4], 3 + place % 6) for place in range(count)]


def all_yards():
    return list(SHAPES.values()) + list(GREAT.values()) + some_yards(1, 60) + some_yards(2, 8, most=12)


PACES = [(1, 1, 1, 1), (1, 2, 3, 4), (9, 1, 4, 7), (5, 5, 2, 3), (2, 9, 9, 1)]


def cells_outside(yard):
    """The cells outside between the lines, as (x1, x2, y1, y2)."""
    xs, ys = worth(yard[0]), worth(yard[1])
    return [(xs[across], xs[across + 1], ys[up], ys[up + 1])
            for up, row in enumerate(yard[2]) for across, sign in enumerate(row) if sign == "."]


def box_of(paces, x, y, height):
    """The box about a point, as (west, east, south, north)."""
    east, north, west, south = paces
    return (x - east * height, x + west * height, y - north * height, y + south * height)


def box_lies_in(yard, paces, x, y, height):
    """Whether no point within the box is one within a cell outside or beyond the lines."""
    if height == 0:
        return True
    if yard == VOID:
        return False
    west, east, south, north = box_of(paces, x, y, height)
    xs, ys = worth((yard[0][0], yard[0][-1])), worth((yard[1][0], yard[1][-1]))
    if west < xs[0] or east > xs[1] or south < ys[0] or north > ys[1]:
        return False
    return not any(west < x2 and east > x1 and south < y2 and north > y1 for x1, x2, y1, y2 in cells_outside(yard))


def turning_heights(yard, paces, x, y):
    """Nought and all heights at which an edge of the point's box lies on a line, rising."""
    east, north, west, south = paces
    found = {Fraction(0)}
    for line in worth(yard[0]):
        found |= {(x - line) / east, (line - x) / west}
    for line in worth(yard[1]):
        found |= {(y - line) / north, (line - y) / south}
    return sorted(height for height in found if height >= 0)


def expected_height(yard, paces, x, y):
    """The greatest of the heights at which a box can stop to lie in the yard."""
    return max(height for height in turning_heights(yard, paces, x, y) if box_lies_in(yard, paces, x, y, height))


def expected_touch(paces, x, y, height, side):
    """Whether the side has a point in common with the box's edge on its own side."""
    facing, line, begin, end = side[0], Fraction(*side[1]), Fraction(*side[2]), Fraction(*side[3])
    west, east, south, north = box_of(paces, x, y, height)
    edge = {0: west, 1: south, 2: east, 3: north}[facing]
    low, high = (south, north) if facing in (0, 2) else (west, east)
    return line == edge and max(begin, low) <= min(end, high)


def minus_all(numbers):
    return tuple(told(-Fraction(*number)) for number in numbers)


def front_rank(front):
    """What fronts are sorted by."""
    return (front[0], Fraction(*front[1]))


def moving_line(paces, front, height):
    """A front's line, a Fraction, at a height, a Fraction."""
    way = paces[front[0]] * height
    return Fraction(*front[1]) + (way if front[0] in (0, 1) else -way)


def meeting_heights(paces, fronts):
    """Nought and all heights at which two of these fronts that go toward one another meet, rising."""
    found = {Fraction(0)}
    for (facing, line), (other, ahead) in product(fronts, fronts):
        if (facing, other) in ((0, 2), (1, 3)) and Fraction(*line) < Fraction(*ahead):
            found.add((Fraction(*ahead) - Fraction(*line)) / (paces[facing] + paces[other]))
    return sorted(found)


def heights_between(heights, parts=(Fraction(1, 3), Fraction(6, 7))):
    """Heights within each stretch between neighbouring ones, and one behind the last."""
    found = [low + (high - low) * part for low, high in zip(heights, heights[1:]) for part in parts]
    return found + [heights[-1] + 1]


TURNED_FACING = {0: (1, 1), 1: (2, -1), 2: (3, 1), 3: (0, -1)}
MIRRORED_FACING = {0: (2, -1), 1: (1, 1), 2: (0, -1), 3: (3, 1)}


class Bringing:
    """A way in which a yard is brought elsewhere, and what comes of its fronts, strips, ridges, crests."""

    def __init__(self, yard, paces, facings=None, by=(1, 1), add=(0, 0), height_by=1):
        self.yard, self.paces = yard, paces
        self.facings = facings or {facing: (facing, 1) for facing in range(4)}
        self.by, self.add, self.height_by = by, add, Fraction(height_by)

    def number(self, facing, line):
        """The line to which a line goes on which sides of this facing lie."""
        brought, sign = self.facings[facing]
        return told(Fraction(*line) * sign * self.by[brought % 2] + self.add[brought % 2])

    def height(self, number):
        return told(Fraction(*number) * self.height_by)

    def front(self, front):
        return (self.facings[front[0]][0], self.number(*front))

    def ends(self, facing, begin, end):
        """Two ends, in their order, of what lies along lines of this facing."""
        return (end, begin) if self.facings[(facing + 1) % 4][1] < 0 else (begin, end)

    def strip(self, strip):
        front, first, last, low, high = strip
        first, last = self.ends(front[0], self.front(first), self.front(last))
        return (self.front(front), first, last, self.height(low), self.height(high))

    def strips(self, strips):
        return sorted([self.strip(strip) for strip in strips], key=strip_rank)

    def ridges(self, ridges):
        brought = [(kind,) + tuple(sorted([self.front(one), self.front(other)], key=lambda front: front[0] % 2))
                   + (self.height(low), self.height(high)) for kind, one, other, low, high in ridges]
        return sorted(brought, key=ridge_rank)

    def crest(self, crest):
        height, one, other, begin, end = crest
        one, other = sorted([self.front(one), self.front(other)])
        along = (crest[1][0] + 1) % 4
        begin, end = self.ends(crest[1][0], self.number(along, begin), self.number(along, end))
        return (self.height(height), one, other, begin, end)

    def crests(self, crests):
        return sorted([self.crest(crest) for crest in crests], key=crest_rank)


def strip_rank(strip):
    return (front_rank(strip[0]), Fraction(*strip[3]), front_rank(strip[1]), front_rank(strip[2]))


def ridge_rank(ridge):
    return (front_rank(ridge[1]), front_rank(ridge[2]), Fraction(*ridge[3]), ridge[0])


def crest_rank(crest):
    return (Fraction(*crest[0]), front_rank(crest[1]), front_rank(crest[2]), Fraction(*crest[3]))


def lines_brought(yard, by, add):
    return (tuple(told(line * by[0] + add[0]) for line in worth(yard[0])),
            tuple(told(line * by[1] + add[1]) for line in worth(yard[1])), yard[2])


def mirrored_yard(yard):
    return (minus_all(yard[0][::-1]), yard[1], tuple(row[::-1] for row in yard[2]))


def turned_yard(yard):
    return (minus_all(yard[1][::-1]), yard[0], tuple("".join(column)[::-1] for column in zip(*yard[2])))


def bringings(yard, paces):
    """The yard moved, turned, mirrored, stretched with its paces and by one number, each as a Bringing."""
    east, north, west, south = paces
    add = (Fraction(-7, 3), Fraction(5, 2))
    yield Bringing(lines_brought(yard, (1, 1), add), paces, add=add)
    yield Bringing(turned_yard(yard), (south, east, north, west), TURNED_FACING)
    yield Bringing(mirrored_yard(yard), (west, north, east, south), MIRRORED_FACING)
    by = (9 // max(east, west), 9 // max(north, south))
    stretched_paces = (east * by[0], north * by[1], west * by[0], south * by[1])
    yield Bringing(lines_brought(yard, by, (0, 0)), stretched_paces, by=by)
    for both_ways in (Fraction(1, 3), Fraction(7, 2)):
        by = (both_ways, both_ways)
        yield Bringing(lines_brought(yard, by, (0, 0)), paces, by=by, height_by=both_ways)
