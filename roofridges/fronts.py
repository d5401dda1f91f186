"""Sides, fronts and corners of a yard. Facings: 0 east, 1 north, 2 west, 3 south."""

from roofridges.yards import has_cell


def is_edge(yard, facing, place, band):
    """Whether the line at this place has, in this band across it, the yard where it faces and the outside behind."""
    # A line has the same place as the band that lies east, or north, of it.
    if facing % 2 == 0:
        beyond = has_cell(yard, place, band)
        before = has_cell(yard, place - 1, band)
    else:
        beyond = has_cell(yard, band, place)
        before = has_cell(yard, band, place - 1)
    if facing < 2:
        return beyond and not before
    return before and not beyond


def runs(truths):
    """The stretches of neighbouring truths that are True, each by the places of its begin and its end."""
    told = []
    begin = None
    # Behind the last one none goes on.
    for place, truth in enumerate(truths + [False]):
        if truth and begin is None:
            begin = place
        if not truth and begin is not None:
            told.append((begin, place))
            begin = None
    return told


def stretches(yard, facing, place):
    """The stretches of the line at this place that are sides of this facing, by the places of begin and end."""
    bands = len(yard[1 - facing % 2]) - 1
    return runs([is_edge(yard, facing, place, band) for band in range(bands)])


def sides(yard):
    """All sides (facing, line, begin, end), sorted by facing, line, begin."""
    told = []
    for facing in range(4):
        along = yard[1 - facing % 2]
        for place, line in enumerate(yard[facing % 2]):
            for begin, end in stretches(yard, facing, place):
                told.append((facing, line, along[begin], along[end]))
    return told


def fronts_of(sorted_sides):
    """The fronts (facing, line) of sides that are sorted, each once and in their order."""
    told = []
    for side in sorted_sides:
        front = (side[0], side[1])
        if not told or told[-1] != front:
            told.append(front)
    return told


def fronts(yard):
    """All fronts (facing, line), sorted by facing, then by line."""
    return fronts_of(sides(yard))


def corner_kind(yard, across, up):
    """What kind of corner is where these lines cross; None where there is none."""
    cells = [
        has_cell(yard, across - 1, up - 1), has_cell(yard, across, up - 1),
        has_cell(yard, across - 1, up), has_cell(yard, across, up),
    ]
    inside = cells.count(True)
    if inside == 1:
        return "out"
    if inside == 3:
        return "in"
    if inside == 2 and cells[0] == cells[3]:
        return "touch"
    return None


def corners(yard):
    """All corners (x, y, kind), sorted by x, then y."""
    told = []
    for across, x in enumerate(yard[0]):
        for up, y in enumerate(yard[1]):
            kind = corner_kind(yard, across, up)
            if kind is not None:
                told.append((x, y, kind))
    return told
