"""Sums: the size of a yard's cuts, and the volume under its roof."""

from roofridges.cuts import cut
from roofridges.fractions import NOUGHT, common_divisor, fraction, mean, minus, over, plus, times
from roofridges.levels import levels
from roofridges.moves import stretched
from roofridges.yards import size


def size_at(yard, paces, height):
    """The size of the cut at a height."""
    return size(cut(yard, paces, height))


def stretch_sum(low, high, worths):
    """The sum over a stretch of heights by what is told at its begin, its middle, its end."""
    together = plus(plus(worths[0], times((4, 1), worths[1])), worths[2])
    return times(times((1, 6), minus(high, low)), together)


def common_bottom(numbers):
    """The least whole number by which all these numbers become whole ones."""
    told = 1
    for number in numbers:
        told = told * number[1] // common_divisor(told, number[1])
    return told


def volume_of(yard, paces):
    heights = [level[0] for level in levels(yard, paces)]
    told = NOUGHT
    for low, high in zip(heights, heights[1:]):
        worths = [size_at(yard, paces, height) for height in (low, mean(low, high), high)]
        told = plus(told, stretch_sum(low, high, worths))
    return told


def volume(yard, paces):
    """What lies between the yard and its roof."""
    # Over whole lines the sums stay short; stretched so both ways, the volume is as great as the third power tells.
    by = common_bottom(yard[0] + yard[1])
    whole = stretched(yard, (by, 1), (by, 1))
    return over(volume_of(whole, paces), fraction(by ** 3, 1))
