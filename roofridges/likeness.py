"""Likeness: whether one yard comes to another by mirroring, turning and moving, and what shows it."""

from roofridges.fractions import NOUGHT, is_number, is_whole, mean, minus
from roofridges.moves import mirrored, moved, turned
from roofridges.sets import less
from roofridges.yards import VOID, lies

# Whether a yard is mirrored, and how often it is turned then.
WAYS = ((False, 0), (False, 1), (False, 2), (False, 3), (True, 0), (True, 1), (True, 2), (True, 3))


def brought(yard, way):
    """The yard mirrored and turned as a way tells."""
    told = mirrored(yard) if way[0] else yard
    for count in range(way[1]):
        told = turned(told)
    return told


def step_to(one, other):
    """How far the first yard is moved till its least lines are those of the second."""
    # A void yard has no lines: where there is one, both stay.
    if one == VOID or other == VOID:
        return (NOUGHT, NOUGHT)
    return (minus(other[0][0], one[0][0]), minus(other[1][0], one[1][0]))


def laid_on(one, other, way):
    """The first yard brought by a way and moved on the second."""
    told = brought(one, way)
    step = step_to(told, other)
    return moved(told, step[0], step[1])


def point_within(yard):
    """A point within a cell of a yard that is not void."""
    # The lowest row of a yard has a cell in it.
    across = yard[2][0].index("#")
    return (mean(yard[0][across], yard[0][across + 1]), mean(yard[1][0], yard[1][1]))


def parting(one, other):
    """A point (x, y, which) in the first yard and out of the second, or the other way round; they are not the same."""
    first_alone = less(one, other)
    which = 0 if first_alone != VOID else 1
    point = point_within(first_alone if which == 0 else less(other, one))
    return (point[0], point[1], which)


def likeness(one, other):
    """How the first yard comes to the second, or for each way a point that shows that it does not."""
    for way in WAYS:
        if laid_on(one, other, way) == other:
            step = step_to(brought(one, way), other)
            return ("same", way[1], way[0], step[0], step[1])
    return ("unlike", [parting(laid_on(one, other, way), other) for way in WAYS])


def shows_same(one, other, thing):
    """Whether a tuple ("same", turns, mirrored, x, y), of any things, brings the first yard to the second."""
    if not is_whole(thing[1]) or not 0 <= thing[1] <= 3 or not isinstance(thing[2], bool):
        return False
    if not is_number(thing[3]) or not is_number(thing[4]):
        return False
    return moved(brought(one, (thing[2], thing[1])), thing[3], thing[4]) == other


def parts(one, other, thing):
    """Whether any plain thing is a point (x, y, which) in the one yard that which tells and out of the other."""
    if not isinstance(thing, tuple) or len(thing) != 3 or not is_number(thing[0]) or not is_number(thing[1]):
        return False
    if not is_whole(thing[2]) or thing[2] not in (0, 1):
        return False
    where = (lies(one, thing[0], thing[1]), lies(other, thing[0], thing[1]))
    return where == (("in", "out") if thing[2] == 0 else ("out", "in"))


def shows_unlike(one, other, points):
    """Whether any plain thing is a list of points, one for each way, that part the first yard from the second."""
    if not isinstance(points, list) or len(points) != len(WAYS):
        return False
    return all([parts(laid_on(one, other, way), other, point) for way, point in zip(WAYS, points)])


def shows_likeness(one, other, thing):
    """Whether any plain thing is a right answer to whether two yards are alike."""
    if not isinstance(thing, tuple):
        return False
    if len(thing) == 5 and thing[0] == "same":
        return shows_same(one, other, thing)
    return len(thing) == 2 and thing[0] == "unlike" and shows_unlike(one, other, thing[1])
