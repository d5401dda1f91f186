"""Heights: how high the roof is over a point, which sides its box touches, and papers that show it."""

from roofridges.errors import NoPoint
from roofridges.fractions import NOUGHT, fraction, greater, is_number, is_whole, lesser, minus, over, plus, times, under
from roofridges.fronts import fronts_of, sides
from roofridges.yards import has_cell, lies


def gone(pace, time):
    """How far one comes by a pace, a whole number, in a time."""
    return times(fraction(pace, 1), time)


def time_to(way, pace):
    """How long one needs for a way, a number, by a pace."""
    return over(way, fraction(pace, 1))


def times_to(lines, where, down, up):
    """For each band, those beyond the lines at both ends too, how long a box about a number grows till it is there.

    It grows by the pace down to lesser numbers, by the pace up to greater ones.
    """
    told = [time_to(minus(where, lines[0]), down)]
    for place in range(1, len(lines)):
        from_above = time_to(minus(where, lines[place]), down)
        from_below = time_to(minus(lines[place - 1], where), up)
        # Above nought is one of both at most, and none where the box begins in the band.
        told.append(greater(from_above, from_below))
    told.append(time_to(minus(lines[-1], where), up))
    return told


def height(yard, paces, x, y):
    """The height of the roof over a point: the greatest of which the box about it lies in the yard."""
    if lies(yard, x, y) != "in":
        return NOUGHT
    across_times = times_to(yard[0], x, paces[0], paces[2])
    up_times = times_to(yard[1], y, paces[1], paces[3])
    # No box grows beyond the westmost line.
    told = across_times[0]
    for up, up_time in enumerate(up_times):
        for across, across_time in enumerate(across_times):
            # The times begin with that to the band beyond the lines, whose place is -1.
            if not has_cell(yard, across - 1, up - 1):
                told = lesser(told, greater(across_time, up_time))
    return told


def box_edges(paces, x, y, time):
    """The edges of a point's box, by the facing of the sides that touch them: west, south, east, north."""
    return (
        minus(x, gone(paces[0], time)), minus(y, gone(paces[1], time)),
        plus(x, gone(paces[2], time)), plus(y, gone(paces[3], time)),
    )


def touches(side, edges):
    """Whether a side has a point in common with the box's edge on its own side of it."""
    low = edges[1 - side[0] % 2]
    high = edges[3 - side[0] % 2]
    return side[1] == edges[side[0]] and not under(side[3], low) and not under(high, side[2])


def touching(yard, edges):
    return [side for side in sides(yard) if touches(side, edges)]


def touched(yard, paces, x, y):
    """The fronts that a point's box of its height touches, sorted."""
    edges = box_edges(paces, x, y, height(yard, paces, x, y))
    return fronts_of(touching(yard, edges))


def paper(yard, paces, x, y):
    """The point's height with the first side that shows it, or NoPoint outside."""
    if lies(yard, x, y) == "out":
        raise NoPoint("the point lies outside of the yard")
    told = height(yard, paces, x, y)
    return (told, touching(yard, box_edges(paces, x, y, told))[0])


def is_side_of(yard, thing):
    if not isinstance(thing, tuple) or len(thing) != 4 or not is_whole(thing[0]):
        return False
    # A truth within a number would pass for a whole number where sides are compared.
    return all([is_number(part) for part in thing[1:]]) and thing in sides(yard)


def shows(yard, paces, x, y, thing):
    """Whether any plain thing is a paper that shows the point's height."""
    if not isinstance(thing, tuple) or len(thing) != 2:
        return False
    if not is_number(thing[0]) or under(thing[0], NOUGHT) or not is_side_of(yard, thing[1]):
        return False
    # Boxes grow with their heights, so just those of heights up to the point's own lie in the yard.
    if under(height(yard, paces, x, y), thing[0]):
        return False
    return touches(thing[1], box_edges(paces, x, y, thing[0]))
