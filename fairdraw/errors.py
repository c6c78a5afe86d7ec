"""The refusals of the program [2].

What a refusal was made with stays its own value; no words are made of it,
so that a refusal can be made whatever the size of its numbers.
"""


class DrawError(ValueError):
    """Any refusal."""


class NoFraction(DrawError):
    """What was handed in makes no fraction."""


class NoText(DrawError):
    """A text that is none; row is the number of the first row that is wrong, from 1."""

    def __init__(self, row):
        self.row = row


class Twice(DrawError):
    """A name or a value that stands twice where it may stand once."""

    def __init__(self, what):
        self.what = what


class NoShares(DrawError):
    """The shares of a draw add up to total, not to one."""

    def __init__(self, total):
        self.total = total


class NoName(DrawError):
    """A name that is not known where it stands."""

    def __init__(self, name):
        self.name = name


class NoCall(DrawError):
    """A call of the part of that name with too many or too few arguments."""

    def __init__(self, name):
        self.name = name


class TooMany(DrawError):
    """More than most of what is measured."""

    def __init__(self, most):
        self.most = most


class CannotBe(DrawError):
    """What was seen cannot be."""


class NoRow(DrawError):
    """A row that the desk does not know."""
