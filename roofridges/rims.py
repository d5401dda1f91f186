"""Rims: the rings of corners that shut in a yard's pieces and holes."""

from roofridges.fronts import sides


def begin_and_end(side):
    """The two points of a side, in the order in which one comes to them who has the yard at the left hand."""
    # So one goes east along what faces north, and north along what faces west.
    way = (side[2], side[3]) if side[0] in (1, 2) else (side[3], side[2])
    if side[0] % 2 == 0:
        return ((side[1], way[0]), (side[1], way[1]))
    return ((way[0], side[1]), (way[1], side[1]))


def by_begin(all_sides):
    """The sides by their facing and the point where one begins to go along them."""
    told = {}
    for side in all_sides:
        told[(side[0], begin_and_end(side)[0])] = side
    return told


def next_side(side, begun):
    end = begin_and_end(side)[1]
    # Who turns left comes to a side of the next facing; at a touch there is one at the right hand, too.
    left = ((side[0] + 1) % 4, end)
    right = ((side[0] + 3) % 4, end)
    return begun[left] if left in begun else begun[right]


def ring_of(first, begun):
    """The sides of the ring in which this side stands, from it on."""
    told = [first]
    side = next_side(first, begun)
    while side != first:
        told.append(side)
        side = next_side(side, begun)
    return told


def place_of(yard, point):
    """The place of a corner among the yard's lines; it tells the order of points as their worth does."""
    return (yard[0].index(point[0]), yard[1].index(point[1]))


def from_least(yard, points):
    """The ring of these points, from the one with the least x, of these the least y, on."""
    least = points.index(min(points, key=lambda point: place_of(yard, point)))
    return points[least:] + points[:least]


def rims(yard):
    """The rims: rings of points, sorted by their first points."""
    all_sides = sides(yard)
    begun = by_begin(all_sides)
    passed = {}
    rings = []
    for side in all_sides:
        if side not in passed:
            ring = ring_of(side, begun)
            for one in ring:
                passed[one] = True
            rings.append(from_least(yard, [begin_and_end(one)[0] for one in ring]))
    return sorted(rings, key=lambda points: place_of(yard, points[0]))
