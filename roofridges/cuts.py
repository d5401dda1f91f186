"""Cuts: what is left of a yard at a height, and what it is grown back by a height."""

from roofridges.fractions import merged, minus, plus
from roofridges.heights import gone
from roofridges.yards import columns, tidied


def filled(row, sign, begin, end):
    return row[:begin] + sign * (end - begin) + row[end:]


def grown_row(row, sign, begins, ends, wide):
    """A row in which each band with this sign covers all from its begin to its end."""
    told = ("." if sign == "#" else "#") * wide
    for place, kept in enumerate(row):
        if kept == sign:
            told = filled(told, sign, begins[place], ends[place])
    return told


def grown(lines, rows, sign, down, up):
    """Lines and rows where all bands with a sign, those beyond the lines too, have grown so far at both ends."""
    lower = [minus(line, down) for line in lines]
    upper = [plus(line, up) for line in lines]
    finer = merged(lower, upper)
    begins = [0] + [finer.index(line) for line in lower]
    ends = [finer.index(line) for line in upper] + [len(finer) - 1]
    wide = len(finer) - 1
    return (finer, [grown_row("." + row + ".", sign, begins, ends, wide) for row in rows])


def grown_yard(yard, sign, reaches):
    """The yard where all cells with a sign reach so far beyond themselves to the west, south, east, north."""
    across = grown(yard[0], yard[2], sign, reaches[0], reaches[2])
    up = grown(yard[1], columns(across[1]), sign, reaches[1], reaches[3])
    return tidied(across[0], up[0], columns(up[1]))


def cut(yard, paces, height):
    """The yard of all points whose height is greater."""
    # A cell outside takes away what lies west of it by the pace west, as the sides there face west.
    reaches = (gone(paces[2], height), gone(paces[3], height), gone(paces[0], height), gone(paces[1], height))
    return grown_yard(yard, ".", reaches)


def back(yard, paces, height):
    """The yard grown back by a height: all that lies in the boxes of this height about its points."""
    # A box goes west by the pace east, as the side that it meets there faces east.
    return grown_yard(yard, "#", tuple([gone(pace, height) for pace in paces]))
