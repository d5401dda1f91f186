"""Numbers: tuples (top, bottom) in lowest terms, with a bottom above nought."""

from roofridges.errors import NoNumber

NOUGHT = (0, 1)


def is_whole(thing):
    # Python counts truths among its whole numbers, the program does not.
    return isinstance(thing, int) and not isinstance(thing, bool)


def common_divisor(one, other):
    while other != 0:
        rest = one % other
        one = other
        other = rest
    return abs(one)


def lowest(top, bottom):
    """The number of a top and a bottom that is known not to be 0."""
    divisor = common_divisor(top, bottom)
    # The sign is kept by the top alone, so that a number has one form.
    if bottom < 0:
        divisor = -divisor
    return (top // divisor, bottom // divisor)


def is_number(thing):
    """Whether any plain thing is a number."""
    if not isinstance(thing, tuple) or len(thing) != 2:
        return False
    if not is_whole(thing[0]) or not is_whole(thing[1]):
        return False
    return thing[1] >= 1 and common_divisor(thing[0], thing[1]) == 1


def fraction(top, bottom):
    """The number of two whole numbers, or NoNumber."""
    if not is_whole(top) or not is_whole(bottom):
        raise NoNumber("a number is made of two whole numbers")
    if bottom == 0:
        raise NoNumber("the bottom of a number is not nought")
    return lowest(top, bottom)


def plus(one, other):
    return lowest(one[0] * other[1] + other[0] * one[1], one[1] * other[1])


def minus(one, other):
    return lowest(one[0] * other[1] - other[0] * one[1], one[1] * other[1])


def times(one, other):
    return lowest(one[0] * other[0], one[1] * other[1])


def over(one, other):
    """The first divided by the second, or NoNumber where that is nought."""
    if other[0] == 0:
        raise NoNumber("no number is divided by nought")
    return lowest(one[0] * other[1], one[1] * other[0])


def under(one, other):
    """Whether the first is less than the second."""
    return one[0] * other[1] < other[0] * one[1]


def lesser(one, other):
    return other if under(other, one) else one


def greater(one, other):
    return other if under(one, other) else one


def merged(one, other):
    """Two rising lists of numbers as one rising list, each number once."""
    told = []
    first = 0
    second = 0
    while first < len(one) and second < len(other):
        ahead = one[first]
        if under(other[second], ahead):
            ahead = other[second]
        # A number that both have is passed in both, so that it is told once.
        first = first + (1 if one[first] == ahead else 0)
        second = second + (1 if other[second] == ahead else 0)
        told.append(ahead)
    return told + list(one[first:]) + list(other[second:])


def rising(numbers):
    """The numbers sorted by what they are worth, each once."""
    if len(numbers) < 2:
        return list(numbers)
    middle = len(numbers) // 2
    return merged(rising(numbers[:middle]), rising(numbers[middle:]))


def mean(one, other):
    return times((1, 2), plus(one, other))
