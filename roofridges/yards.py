"""Yards: tuples (xs, ys, rows) of lines and of the cells between them."""

from roofridges.errors import NoYard
from roofridges.fractions import NOUGHT, fraction, is_number, is_whole, minus, plus, times, under

VOID = ((), (), ())
MOST_LINES = 7
FARTHEST = 1000000000


def is_row(thing, wide):
    if not isinstance(thing, str) or len(thing) != wide:
        return False
    return all([sign in "#." for sign in thing])


def rows_fit(rows, xs, ys):
    """Whether there is a row for each two neighbouring ys, with a sign for each two neighbouring xs."""
    wide = max(len(xs) - 1, 0)
    high = max(len(ys) - 1, 0)
    return len(rows) == high and all([is_row(row, wide) for row in rows])


def column(rows, place):
    return "".join([row[place] for row in rows])


def columns(rows):
    wide = len(rows[0]) if rows else 0
    return [column(rows, place) for place in range(wide)]


def changes(bands):
    """The places of the lines at whose two sides the bands (rows, or columns) differ."""
    if not bands:
        return []
    # What lies beyond the lines counts as bands outside.
    outside = "." * len(bands[0])
    framed = [outside] + list(bands) + [outside]
    return [place for place in range(len(framed) - 1) if framed[place] != framed[place + 1]]


def picked(row, places):
    return "".join([row[place] for place in places])


def tidied(xs, ys, rows):
    """The yard of lines, numbers that rise, and of rows that fit them and need not be tidy."""
    at_xs = changes(columns(rows))
    at_ys = changes(rows)
    # Each line that stays begins a band, but the last one.
    kept = [picked(rows[place], at_xs[:-1]) for place in at_ys[:-1]]
    return (tuple([xs[place] for place in at_xs]), tuple([ys[place] for place in at_ys]), tuple(kept))


def are_number_lines(thing):
    if not isinstance(thing, tuple) or not all([is_number(line) for line in thing]):
        return False
    return all([under(thing[place - 1], thing[place]) for place in range(1, len(thing))])


def is_yard(thing):
    """Whether any plain thing is a yard."""
    if not isinstance(thing, tuple) or len(thing) != 3:
        return False
    if not are_number_lines(thing[0]) or not are_number_lines(thing[1]):
        return False
    if not isinstance(thing[2], tuple) or not rows_fit(thing[2], thing[0], thing[1]):
        return False
    # A yard is told in one way alone, so a tidy one stays as it is.
    return tidied(thing[0], thing[1], thing[2]) == thing


def is_whole_line(thing):
    return is_whole(thing) and -FARTHEST <= thing <= FARTHEST


def are_whole_lines(thing):
    if not isinstance(thing, list) or len(thing) > MOST_LINES:
        return False
    if not all([is_whole_line(line) for line in thing]):
        return False
    return all([thing[place - 1] < thing[place] for place in range(1, len(thing))])


def made(xs, ys, rows):
    """The yard of lists of whole lines and of a list of rows, tidy or not, or NoYard."""
    if not are_whole_lines(xs) or not are_whole_lines(ys):
        raise NoYard("the lines of a yard are a list of at most seven rising whole numbers")
    if not isinstance(rows, list) or not rows_fit(rows, xs, ys):
        raise NoYard("the rows of a yard are a list of texts with a sign for each cell")
    return tidied([fraction(x, 1) for x in xs], [fraction(y, 1) for y in ys], rows)


def width(xs, row):
    """How wide the cells of a row are together."""
    told = NOUGHT
    for place, sign in enumerate(row):
        if sign == "#":
            told = plus(told, minus(xs[place + 1], xs[place]))
    return told


def size(yard):
    """The sizes of the yard's cells together."""
    told = NOUGHT
    for place, row in enumerate(yard[2]):
        tall = minus(yard[1][place + 1], yard[1][place])
        told = plus(told, times(tall, width(yard[0], row)))
    return told


def bands_at(lines, where):
    """The places of the bands that a number touches: one, or two on a line; the first and last ones lie beyond."""
    below = len([line for line in lines if under(line, where)])
    if below < len(lines) and lines[below] == where:
        return [below - 1, below]
    return [below - 1]


def has_cell(yard, across, up):
    """Whether the cell at these places is in the yard; beyond the lines none is."""
    rows = yard[2]
    if up < 0 or up >= len(rows) or across < 0 or across >= len(rows[up]):
        return False
    return rows[up][across] == "#"


def lies(yard, x, y):
    """Where the point lies: "in" the yard, "out" of it, or on its "rim"."""
    cells = []
    for up in bands_at(yard[1], y):
        for across in bands_at(yard[0], x):
            cells.append(has_cell(yard, across, up))
    if all(cells):
        return "in"
    if any(cells):
        return "rim"
    return "out"
