"""Yards and paces that are moved, turned, mirrored, stretched."""

from roofridges.fractions import NOUGHT, minus, plus, times
from roofridges.yards import columns


def opposite(lines):
    """The lines on the other side of nought, rising again."""
    return tuple([minus(NOUGHT, line) for line in reversed(lines)])


def backward(row):
    return "".join(reversed(row))


def moved(yard, x, y):
    """The yard of which each line has x, or y, more."""
    return (tuple([plus(line, x) for line in yard[0]]), tuple([plus(line, y) for line in yard[1]]), yard[2])


def turned(yard):
    """The yard turned by a quarter to the left: the point (x, y) comes to (-y, x)."""
    # A column becomes a row, and its north end comes to lie in the west.
    rows = tuple([backward(one) for one in columns(yard[2])])
    return (opposite(yard[1]), yard[0], rows)


def mirrored(yard):
    """The yard mirrored: the point (x, y) comes to (-x, y)."""
    return (opposite(yard[0]), yard[1], tuple([backward(row) for row in yard[2]]))


def stretched(yard, by_x, by_y):
    """The yard of which each line lies so many times as far from nought; both numbers are above nought."""
    xs = tuple([times(line, by_x) for line in yard[0]])
    ys = tuple([times(line, by_y) for line in yard[1]])
    return (xs, ys, yard[2])


def turned_paces(paces):
    """The paces (east, north, west, south) of a yard that is turned with them."""
    return (paces[3], paces[0], paces[1], paces[2])


def mirrored_paces(paces):
    """The paces (east, north, west, south) of a yard that is mirrored with them."""
    return (paces[2], paces[1], paces[0], paces[3])
