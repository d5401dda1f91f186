"""Rain: the way down the roof from a point to a side."""

from roofridges.fractions import NOUGHT, minus, under
from roofridges.heights import box_edges, paper, time_to, touching
from roofridges.levels import line_at


def nearest_end(paces, side, at):
    """How soon a box that grows about a number along a side's line comes to the side, and where: (time, end)."""
    way = side[0] % 2
    if under(side[3], at):
        return (time_to(minus(at, side[3]), paces[1 - way]), side[3])
    if under(at, side[2]):
        return (time_to(minus(side[2], at), paces[3 - way]), side[2])
    return (NOUGHT, at)


def soonest(ends):
    """The first of the pairs (time, end) with the least time."""
    told = ends[0]
    for pair in ends:
        if under(pair[0], told[0]):
            told = pair
    return told


def point_on(front, line, at):
    """The point at a number along a line that lies as the front's does."""
    return (line, at) if front[0] % 2 == 0 else (at, line)


def rain(yard, paces, x, y):
    """The points (x, y, height) by which rain goes down to a side, or NoPoint outside."""
    shown = paper(yard, paces, x, y)
    told = [(x, y, shown[0])]
    if shown[0] == NOUGHT:
        return told
    front = shown[1][:2]
    reached = [side for side in touching(yard, box_edges(paces, x, y, shown[0])) if side[:2] == front]
    at = y if front[0] % 2 == 0 else x
    # Sides come sorted by their begins, so of like times the end below comes first.
    nearest = soonest([nearest_end(paces, side, at) for side in reached])
    time = nearest[0]
    # As high as the point is the turn only where it is the point itself.
    if time != NOUGHT and time != shown[0]:
        turn = point_on(front, line_at(paces, front, time), at)
        told.append((turn[0], turn[1], time))
    last = point_on(front, front[1], nearest[1])
    told.append((last[0], last[1], NOUGHT))
    return told
