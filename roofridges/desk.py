"""A desk: keeps yards by names, and is told rows of words."""

from roofridges.cuts import back, cut
from roofridges.errors import NoName, NoRow, NoText
from roofridges.fractions import NOUGHT, under
from roofridges.heights import height, touched
from roofridges.levels import levels
from roofridges.likeness import likeness
from roofridges.moves import mirrored, mirrored_paces, moved, turned, turned_paces
from roofridges.rain import rain
from roofridges.ridges import highest
from roofridges.sets import both, either, less
from roofridges.sums import volume
from roofridges.texts import read_number, read_yard, shown_number, shown_yard
from roofridges.yards import size

FIRST_PACES = (1, 1, 1, 1)
FACINGS = ("east", "north", "west", "south")
LETTERS = "abcdefghijklmnopqrstuvwxyz"
LONGEST_NAME = 8

# What stands behind the first word of a row.
ROWS = {
    "yard": ("NEW", "TEXT"), "paces": ("NAME", "PACE", "PACE", "PACE", "PACE"), "drop": ("NAME",),
    "cut": ("NEW", "NAME", "HEIGHT"), "back": ("NEW", "NAME", "HEIGHT"), "move": ("NEW", "NAME", "NUMBER", "NUMBER"),
    "turn": ("NEW", "NAME"), "mirror": ("NEW", "NAME"),
    "both": ("NEW", "NAME", "OTHER"), "either": ("NEW", "NAME", "OTHER"), "less": ("NEW", "NAME", "OTHER"),
    "show": ("NAME",), "size": ("NAME",), "volume": ("NAME",), "height": ("NAME", "NUMBER", "NUMBER"),
    "touched": ("NAME", "NUMBER", "NUMBER"), "levels": ("NAME",), "top": ("NAME",),
    "rain": ("NAME", "NUMBER", "NUMBER"), "alike": ("NAME", "OTHER"),
}


def words_of(row):
    """The first word of a row and the words behind it, those of a yard's text as one, or NoRow."""
    words = row.split(" ")
    if words[0] not in ROWS:
        raise NoRow("no row begins with this word")
    kinds = ROWS[words[0]]
    if kinds[-1] == "TEXT" and len(words) > len(kinds):
        words = words[:len(kinds)] + [" ".join(words[len(kinds):])]
    if len(words) != len(kinds) + 1:
        raise NoRow("a row that begins with this word has another count of words")
    return words


def read_name(word):
    if not 1 <= len(word) <= LONGEST_NAME or not all([sign in LETTERS for sign in word]):
        raise NoName("a name is one to eight small letters")
    return word


def read_pace(word):
    if len(word) != 1 or word not in "123456789":
        raise NoText("a pace is one figure from 1 to 9")
    return int(word)


def read_height(word):
    number = read_number(word)
    if under(number, NOUGHT):
        raise NoText("a height is not below nought")
    return number


def cut_of(own, rest):
    return (cut(own[0], own[1], rest[0]), own[1])


def back_of(own, rest):
    return (back(own[0], own[1], rest[0]), own[1])


def moved_of(own, rest):
    return (moved(own[0], rest[0], rest[1]), own[1])


def turned_of(own, rest):
    return (turned(own[0]), turned_paces(own[1]))


def mirrored_of(own, rest):
    return (mirrored(own[0]), mirrored_paces(own[1]))


def both_of(own, rest):
    return (both(own[0], rest[0]), own[1])


def either_of(own, rest):
    return (either(own[0], rest[0]), own[1])


def less_of(own, rest):
    return (less(own[0], rest[0]), own[1])


def told_text(own, rest):
    return shown_yard(own[0])


def told_size(own, rest):
    return shown_number(size(own[0]))


def told_volume(own, rest):
    return shown_number(volume(own[0], own[1]))


def told_height(own, rest):
    return shown_number(height(own[0], own[1], rest[0], rest[1]))


def listed(texts):
    return ", ".join(texts) if texts else "none"


def told_touched(own, rest):
    fronts = touched(own[0], own[1], rest[0], rest[1])
    return listed([FACINGS[facing] + " " + shown_number(line) for facing, line in fronts])


def shown_level(level):
    return " ".join([shown_number(level[0])] + [str(count) for count in level[1:]])


def told_levels(own, rest):
    return listed([shown_level(level) for level in levels(own[0], own[1])])


def told_top(own, rest):
    top = highest(own[0], own[1])
    return "none" if top is None else shown_number(top[0])


def told_rain(own, rest):
    points = rain(own[0], own[1], rest[0], rest[1])
    return listed([" ".join([shown_number(number) for number in point]) for point in points])


def told_likeness(own, rest):
    told = likeness(own[0], rest[0])
    if told[0] == "unlike":
        return "unlike"
    kind = "mirrored" if told[2] else "plain"
    return " ".join(["same", str(told[1]), kind, shown_number(told[3]), shown_number(told[4])])


# What a row makes of NAME's yard and paces, and what it tells of them.
MAKERS = {
    "cut": cut_of, "back": back_of, "move": moved_of, "turn": turned_of, "mirror": mirrored_of,
    "both": both_of, "either": either_of, "less": less_of,
}
TELLERS = {
    "show": told_text, "size": told_size, "volume": told_volume, "height": told_height, "touched": told_touched,
    "levels": told_levels, "top": told_top, "rain": told_rain, "alike": told_likeness,
}


class Desk:
    """Yards by names, each with its paces."""

    def __init__(self):
        self.kept = {}

    def standing(self, word):
        if word not in self.kept:
            raise NoName("no yard stands by this name")
        return word

    def meant(self, kind, word):
        """What a word of a row stands for, or what it is refused with."""
        if kind == "NEW":
            return read_name(word)
        if kind == "NAME":
            return self.standing(word)
        if kind == "OTHER":
            return self.kept[self.standing(word)][0]
        if kind == "PACE":
            return read_pace(word)
        if kind == "HEIGHT":
            return read_height(word)
        if kind == "NUMBER":
            return read_number(word)
        return read_yard(word)

    def carry_out(self, first, parts):
        """Does what a row asks for that tells nothing."""
        name = parts[0]
        if first == "drop":
            self.kept.pop(name)
        elif first == "yard":
            self.kept[name] = (parts[1], FIRST_PACES)
        elif first == "paces":
            self.kept[name] = (self.kept[name][0], tuple(parts[1:]))
        else:
            self.kept[name] = MAKERS[first](self.kept[parts[1]], parts[2:])

    def say(self, row):
        """The answer to a row, or a refusal, which changes nothing."""
        words = words_of(row)
        first = words[0]
        parts = [self.meant(kind, word) for kind, word in zip(ROWS[first], words[1:])]
        if first in TELLERS:
            return TELLERS[first](self.kept[parts[0]], parts[1:])
        self.carry_out(first, parts)
        return "ok"
