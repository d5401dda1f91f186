"""The refusals: one class for each, all of them under RoofError."""


class RoofError(ValueError):
    """Any refusal."""


class NoNumber(RoofError):
    """No number comes of what was handed in."""


class NoYard(RoofError):
    """No yard comes of what was handed in."""


class NoPoint(RoofError):
    """The point lies where nothing can be told of it."""


class NoText(RoofError):
    """The text is none of what it should tell."""


class NoRow(RoofError):
    """The row is none that a desk knows."""


class NoName(RoofError):
    """The word is no name, or no yard stands by it."""
