"""Pieces of a yard, and its holes."""

from roofridges.yards import has_cell, tidied

STRAIGHT = ((1, 0), (0, 1), (-1, 0), (0, -1))
ALL_ROUND = ((1, 0), (1, 1), (0, 1), (-1, 1), (-1, 0), (-1, -1), (0, -1), (1, -1))


def cells_where(yard, inside):
    """The cells (across, up) in the yard, or outside, with those next to the lines beyond them; lowest row first."""
    told = {}
    for up in range(-1, len(yard[1])):
        for across in range(-1, len(yard[0])):
            if has_cell(yard, across, up) == inside:
                told[(across, up)] = True
    return told


def gathered(start, cells, steps):
    """The cells among these that are come to from the first one by such steps."""
    found = {start: True}
    waiting = [start]
    while waiting:
        cell = waiting.pop()
        for step in steps:
            near = (cell[0] + step[0], cell[1] + step[1])
            if near in cells and near not in found:
                found[near] = True
                waiting.append(near)
    return found


def groups(cells, steps):
    """The cells that hang together by such steps, group by group, in the order of the groups' first cells."""
    told = []
    seen = {}
    for cell in cells:
        if cell not in seen:
            group = gathered(cell, cells, steps)
            seen.update(group)
            told.append(group)
    return told


def group_row(group, wide, up):
    return "".join(["#" if (across, up) in group else "." for across in range(wide)])


def yard_of(yard, group):
    """The yard of some cells among those of another yard's lines."""
    wide = len(yard[0]) - 1
    rows = [group_row(group, wide, up) for up in range(len(yard[1]) - 1)]
    return tidied(yard[0], yard[1], rows)


def pieces(yard):
    """The pieces: yards, sorted by where their lowest row begins, by south line, then west line."""
    # The first cell of a group is the westmost one of its lowest row, so the groups come sorted.
    return [yard_of(yard, group) for group in groups(cells_where(yard, True), STRAIGHT)]


def holes(yard):
    """The holes: yards, sorted as the pieces are."""
    outside = groups(cells_where(yard, False), ALL_ROUND)
    # The first group begins beyond the lines and is no hole.
    return [yard_of(yard, group) for group in outside[1:]]
