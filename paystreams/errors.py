"""The errors of the package.

They build no message from what they are given: any value may be given, even one that cannot be shown.
"""


class StreamError(ValueError):
    """What every error of the package is."""


class ByZero(StreamError):
    """A division by 0."""


class BadText(StreamError):
    """A string that is not the text of a Ratio."""


class BadSystem(StreamError):
    """A system of equations without a solution, or with more than one."""


class BadTable(StreamError):
    """A value that is no table, no paper or no amounts, where one is needed."""


class Clash(StreamError):
    """Sights that are true with no amounts."""


class UnlikeBooks(StreamError):
    """Two books with different names, where they must have the same."""


class NothingToUndo(StreamError):
    """A desk without a step that can be taken back."""


class NothingToRedo(StreamError):
    """A desk without a step that can be done again."""


class BadNumber(StreamError):
    """A value that is not a number."""

    def __init__(self, given):
        self.given = given


class BadName(StreamError):
    """A value that is not a name."""

    def __init__(self, given):
        self.given = given


class BadAmount(StreamError):
    """A value that is not an amount."""

    def __init__(self, given):
        self.given = given


class BadInlet(StreamError):
    """A value that is not an inlet."""

    def __init__(self, given):
        self.given = given


class BadStream(StreamError):
    """A value that is not a stream of the book."""

    def __init__(self, given):
        self.given = given


class BadWish(StreamError):
    """A value that is not a wish."""

    def __init__(self, given):
        self.given = given


class BadDays(StreamError):
    """A value that is not a time in days."""

    def __init__(self, given):
        self.given = given


class NoAccount(StreamError):
    """A value that is not the name of an account of the book."""

    def __init__(self, given):
        self.given = given


class NoStream(StreamError):
    """A start and an end between which the book has no stream."""

    def __init__(self, given):
        self.given = given


class InUse(StreamError):
    """A name that an account has already."""

    def __init__(self, given):
        self.given = given


class TooMuch(StreamError):
    """An amount that is more than an account has."""

    def __init__(self, given):
        self.given = given


class BadSight(StreamError):
    """A value that is not a sight of the book."""

    def __init__(self, given):
        self.given = given


class BadDeed(StreamError):
    """A value that is not a payment of a plan, or no moments for one."""

    def __init__(self, given):
        self.given = given


class BadLine(StreamError):
    """A line of a text, counted from 1, that cannot stand there."""

    def __init__(self, line):
        self.line = line
