"""Texts of numbers and yards, shown and read."""

from roofridges.errors import NoText
from roofridges.fractions import is_number
from roofridges.yards import VOID, is_yard

MOST_FIGURES = 60
MOST_LINES = 12
VOID_TEXT = "void"
BREAK = ";"


def shown_number(number):
    """The number's text: its top, and behind a / its bottom where that is above 1."""
    top = str(number[0])
    return top if number[1] == 1 else top + "/" + str(number[1])


def shown_yard(yard):
    """The yard's text: its xs, its ys and its rows, with one blank between any two words."""
    if yard == VOID:
        return VOID_TEXT
    xs = [shown_number(x) for x in yard[0]]
    ys = [shown_number(y) for y in yard[1]]
    return " ".join(xs + [BREAK] + ys + [BREAK] + list(yard[2]))


def are_figures(text):
    return 1 <= len(text) <= MOST_FIGURES and all([sign in "0123456789" for sign in text])


def read_number(text):
    """The number of a text, or NoText."""
    halves = text.partition("/")
    top = halves[0][1:] if halves[0].startswith("-") else halves[0]
    bottom = halves[2] if halves[1] == "/" else "1"
    if not are_figures(top) or not are_figures(bottom):
        raise NoText("a number is written by one to sixty figures, or two such with a / between")
    number = (int(halves[0]), int(bottom))
    # A 0 ahead, -0 and a bottom of 1 are never shown.
    if not is_number(number) or shown_number(number) != text:
        raise NoText("a number is written in lowest terms, without what could be left out")
    return number


def read_lines(words):
    if len(words) > MOST_LINES:
        raise NoText("a yard is written with at most twelve lines each way")
    return tuple([read_number(word) for word in words])


def read_yard(text):
    """The yard of a text, or NoText."""
    if text == VOID_TEXT:
        return VOID
    words = text.split(" ")
    if words.count(BREAK) != 2:
        raise NoText("a yard is written as its xs, its ys and its rows, parted by two words ;")
    first = words.index(BREAK)
    second = words.index(BREAK, first + 1)
    yard = (read_lines(words[:first]), read_lines(words[first + 1:second]), tuple(words[second + 1:]))
    # The void yard has another text.
    if yard == VOID or not is_yard(yard):
        raise NoText("a yard is written with lines that rise and with tidy rows that go with them")
    return yard
