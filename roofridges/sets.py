"""Two yards together: the cells in both, in one at least, in the first alone."""

from roofridges.fractions import merged
from roofridges.yards import VOID, bands_at, has_cell, tidied


def finer_row(yard, acrosses, up):
    return "".join(["#" if has_cell(yard, across, up) else "." for across in acrosses])


def finer_rows(yard, xs, ys):
    """The yard's rows over lines among which all of its own are."""
    # The last band that a line touches is the one behind it, so each finer band is told by its first line.
    acrosses = [bands_at(yard[0], x)[-1] for x in xs[:-1]]
    ups = [bands_at(yard[1], y)[-1] for y in ys[:-1]]
    return [finer_row(yard, acrosses, up) for up in ups]


def chosen_row(one, other, pairs):
    return "".join(["#" if sign + beside in pairs else "." for sign, beside in zip(one, other)])


def chosen(one, other, pairs):
    """The yard of all cells whose signs in the first and in the second yard are one of these pairs."""
    xs = merged(one[0], other[0])
    ys = merged(one[1], other[1])
    ones = finer_rows(one, xs, ys)
    others = finer_rows(other, xs, ys)
    return tidied(xs, ys, [chosen_row(row, beside, pairs) for row, beside in zip(ones, others)])


def both(one, other):
    """The yard of the cells in both."""
    return chosen(one, other, ("##",))


def either(one, other):
    """The yard of the cells in one at least."""
    return chosen(one, other, ("##", "#.", ".#"))


def less(one, other):
    """The yard of the cells in the first and not in the second."""
    return chosen(one, other, ("#.",))


def within(one, other):
    """Whether the first yard lies within the second."""
    return less(one, other) == VOID
