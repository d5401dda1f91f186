"""Coverings: the sizes and volumes of strips, and whether strips cover a yard's roof once."""

from roofridges.fractions import is_number, is_whole, mean, minus, times, under
from roofridges.heights import gone
from roofridges.levels import line_at, strips
from roofridges.sums import stretch_sum


def length_at(paces, strip, height):
    return minus(line_at(paces, strip[2], height), line_at(paces, strip[1], height))


def strip_size(paces, strip):
    """The size of the part of the yard over which the strip, or a part of one, lies."""
    low = strip[3]
    high = strip[4]
    lengths = mean(length_at(paces, strip, low), length_at(paces, strip, high))
    return times(gone(paces[strip[0][0]], minus(high, low)), lengths)


def strip_volume(paces, strip):
    """The volume of the roof over the part of the yard over which the strip, or a part of one, lies."""
    low = strip[3]
    high = strip[4]
    heights = (low, mean(low, high), high)
    # At each height lies as much as the strip is long there, so many times as high.
    worths = [times(height, length_at(paces, strip, height)) for height in heights]
    return gone(paces[strip[0][0]], stretch_sum(low, high, worths))


def is_front(thing):
    """Whether any plain thing has the form of a front."""
    if not isinstance(thing, tuple) or len(thing) != 2:
        return False
    # A truth would pass for a whole number where fronts are compared.
    return is_whole(thing[0]) and is_number(thing[1])


def is_strip(thing):
    """Whether any plain thing has the form of a strip."""
    if not isinstance(thing, tuple) or len(thing) != 5:
        return False
    if not all([is_front(part) for part in thing[:3]]):
        return False
    return is_number(thing[3]) and is_number(thing[4]) and under(thing[3], thing[4])


def parts_of(strip, things):
    """Those of the things that have the strip's three fronts and begin within it."""
    same = [thing for thing in things if thing[:3] == strip[:3]]
    return [thing for thing in same if not under(thing[3], strip[3]) and under(thing[3], strip[4])]


def fill(strip, parts):
    """Whether the parts, one behind the other, lead from the strip's low to its high, and none is left."""
    ends = {}
    for part in parts:
        ends[part[3]] = part[4]
    height = strip[3]
    count = 0
    while height in ends:
        height = ends[height]
        count = count + 1
    return height == strip[4] and count == len(parts)


def is_covering(yard, paces, thing):
    """Whether any plain thing is a list of strips, parted or whole, that cover the yard's roof once."""
    if not isinstance(thing, list) or not all([is_strip(one) for one in thing]):
        return False
    # At a height without a meeting a side has but one name by its fronts, so each told strip has its own parts.
    count = 0
    for strip in strips(yard, paces):
        parts = parts_of(strip, thing)
        if not fill(strip, parts):
            return False
        count = count + len(parts)
    # What is no told strip's part is of other fronts, or lies below nought, or where no such side is.
    return count == len(thing)
