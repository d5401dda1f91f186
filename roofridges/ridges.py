"""Ridges and valleys, crests, and the top of a yard's roof."""

from roofridges.fractions import greater, lesser, minus, plus, under
from roofridges.fronts import corners, fronts, runs, sides
from roofridges.heights import gone
from roofridges.levels import fronts_by_line, lasting, meetings, places_of, stages
from roofridges.yards import columns

KINDS = {"out": "ridge", "in": "valley"}


def corner_fronts(by_line, corner):
    """The kind of ridge that goes through a cut's corner, and the fronts whose lines cross there."""
    return (KINDS[corner[2]], by_line[(0, corner[0])], by_line[(1, corner[1])])


def ridges(yard, paces):
    """All ridges and valleys (kind, one, other, low, high), as long as can be, sorted by one, other, low, kind."""
    all_fronts = fronts(yard)
    all_stages = stages(yard, paces)
    told_at = []
    for low, above, left in all_stages:
        by_line = fronts_by_line(paces, all_fronts, above)
        told_at.append((low, [corner_fronts(by_line, corner) for corner in corners(left)]))
    told = [(named[0], named[1], named[2], low, high) for named, low, high in lasting(told_at)]
    front = places_of(all_fronts)
    height = places_of([stage[0] for stage in all_stages])
    return sorted(told, key=lambda one: (front[one[1]], front[one[2]], height[one[3]], one[0]))


def open_stretches(yard, one, other):
    """The stretches, as long as can be, where all between the lines of two fronts is in the yard."""
    way = one[0] % 2
    begin = yard[way].index(one[1])
    end = yard[way].index(other[1])
    bands = list(yard[2]) if way == 0 else columns(yard[2])
    along = yard[1 - way]
    return [(along[first], along[last]) for first, last in runs(["." not in band[begin:end] for band in bands])]


def joined(stretches):
    """Stretches whose begins rise, and so their ends, with those made one that have a number in common."""
    told = []
    for begin, end in stretches:
        if told and not under(told[-1][1], begin):
            told[-1] = (told[-1][0], end)
        else:
            told.append((begin, end))
    return told


def common(some, others):
    """What two sorted lists of stretches that lie apart have in common, single numbers too."""
    told = []
    for begin, end in some:
        for first, last in others:
            low = greater(begin, first)
            high = lesser(end, last)
            if not under(high, low):
                told.append((low, high))
    return told


def touching_stretches(yard, front, down, up):
    """Where the middle of a box lies that goes so far down and up and touches a side of the front along its edge."""
    of_front = [side for side in sides(yard) if (side[0], side[1]) == front]
    return joined([(minus(side[2], up), plus(side[3], down)) for side in of_front])


def crest_stretches(yard, paces, met):
    """Where, on the line of two fronts at their meeting, the box of this height lies in the yard and touches both."""
    way = met[1][0] % 2
    down = gone(paces[1 - way], met[0])
    up = gone(paces[3 - way], met[0])
    # Where the box is too great, the end comes ahead of the begin, and there is nothing in common.
    fitting = [(plus(begin, down), minus(end, up)) for begin, end in open_stretches(yard, met[1], met[2])]
    told = common(fitting, touching_stretches(yard, met[1], down, up))
    return common(told, touching_stretches(yard, met[2], down, up))


def crests(yard, paces):
    """All crests (height, one, other, begin, end), as long as can be, sorted by height, one, other, begin."""
    told = []
    for met in meetings(yard, paces):
        for begin, end in crest_stretches(yard, paces, met):
            told.append((met[0], met[1], met[2], begin, end))
    return told


def highest(yard, paces):
    """The greatest height of all with the first crest of it; None of the void yard."""
    all_crests = crests(yard, paces)
    if not all_crests:
        return None
    # A box that is not held on both sides, one way or the other, could be greater.
    top = all_crests[-1][0]
    return (top, [crest for crest in all_crests if crest[0] == top][0])
