"""Levels: where a yard's fronts meet, its strips, and what changes at which height."""

from roofridges.cuts import cut
from roofridges.fractions import NOUGHT, mean, minus, plus, rising, under
from roofridges.fronts import fronts, sides
from roofridges.heights import gone, time_to
from roofridges.pieces import holes, pieces


def line_at(paces, front, height):
    """The front's line at a height."""
    way = gone(paces[front[0]], height)
    return plus(front[1], way) if front[0] < 2 else minus(front[1], way)


def go_toward(one, other):
    """Whether the first front faces east, or north, and the second lies ahead of it and faces it."""
    return other[0] == one[0] + 2 and under(one[1], other[1])


def meeting(paces, one, other):
    """The height at which the lines of two fronts that go toward one another are one, with both fronts."""
    return (time_to(minus(other[1], one[1]), paces[one[0]] + paces[other[0]]), one, other)


def places_of(things):
    """The places of things, each by itself; sorted by these, what is told of them stands in their order."""
    told = {}
    for place, thing in enumerate(things):
        told[thing] = place
    return told


def meetings(yard, paces):
    """All meetings (height, first, second), sorted by height, first front, second front."""
    all_fronts = fronts(yard)
    told = []
    for one in all_fronts:
        for other in all_fronts:
            if go_toward(one, other):
                told.append(meeting(paces, one, other))
    order = places_of(rising([height for height, one, other in told]))
    # Those of one height stay in the order of their fronts.
    return sorted(told, key=lambda met: order[met[0]])


def stages(yard, paces):
    """Nought and each height of a meeting, rising, each with a height between it and the next, and the cut there."""
    heights = rising([NOUGHT] + [met[0] for met in meetings(yard, paces)])
    between = [mean(low, high) for low, high in zip(heights, heights[1:])]
    # From the last meeting on nothing is left.
    between.append(heights[-1])
    return [(low, above, cut(yard, paces, above)) for low, above in zip(heights, between)]


def fronts_by_line(paces, all_fronts, height):
    """The fronts by their way (0 for lines x, 1 for lines y) and their line at a height, but nought, without a meeting.

    No two of one way have the same line there.
    """
    told = {}
    for front in all_fronts:
        told[(front[0] % 2, line_at(paces, front, height))] = front
    return told


def fronts_of_side(by_line, side):
    """The fronts on whose lines a side of a cut lies, begins, ends."""
    way = side[0] % 2
    return (by_line[(way, side[1])], by_line[(1 - way, side[2])], by_line[(1 - way, side[3])])


def lasting(told_at):
    """What is told from which height to which, as (thing, low, high).

    It is handed in as pairs (height, things told from there to the next height), rising; the last one has no things.
    """
    told = []
    begun = {}
    for height, things in told_at:
        there = {}
        for thing in things:
            there[thing] = begun.get(thing, height)
        for thing, low in begun.items():
            if thing not in there:
                told.append((thing, low, height))
        begun = there
    return told


def strips_of(paces, all_fronts, all_stages):
    """The strips by a yard's fronts and stages, sorted by front, low, first, last."""
    told_at = []
    for low, above, left in all_stages:
        by_line = fronts_by_line(paces, all_fronts, above)
        told_at.append((low, [fronts_of_side(by_line, side) for side in sides(left)]))
    told = [(three[0], three[1], three[2], low, high) for three, low, high in lasting(told_at)]
    front = places_of(all_fronts)
    height = places_of([stage[0] for stage in all_stages])
    return sorted(told, key=lambda one: (front[one[0]], height[one[3]], front[one[1]], front[one[2]]))


def strips(yard, paces):
    """All strips (front, first, last, low, high), as long as can be, sorted by front, low, first, last."""
    return strips_of(paces, fronts(yard), stages(yard, paces))


def levels(yard, paces):
    """For each height at which a strip begins or ends: (height, pieces, holes, sides) of the cut just above."""
    all_stages = stages(yard, paces)
    changed = {}
    for strip in strips_of(paces, fronts(yard), all_stages):
        changed[strip[3]] = True
        changed[strip[4]] = True
    told = []
    for height, above, left in all_stages:
        if height in changed:
            told.append((height, len(pieces(left)), len(holes(left)), len(sides(left))))
    return told
