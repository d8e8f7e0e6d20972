"""The refusals: each is a class of its own straight under PadError.

The classes that bear fields hand their base a text: else Python's own error
would keep the very lists that were handed in, beside the copies.
"""


class PadError(ValueError):
    """Any refusal."""


class NoNumber(PadError):
    """A top or a bottom is no whole number, or the bottom is 0."""


class NoFigures(PadError):
    """A text is no row of figures of the base."""


class NoGroups(PadError):
    """A text is not one that comes of grouping."""


class NoBody(PadError):
    """A text is no number's body."""


class NoCore(PadError):
    """A text is not signed in the style."""


class NoValue(PadError):
    """A thing is no value of the form's kind."""


class TooGreat(PadError):
    """A number has more figures ahead of the point than the form allows."""


class TooWide(PadError):
    """A core is longer than the width of a strict form."""


class NoText(PadError):
    """No value is put as the text."""


class NoSheet(PadError):
    """No sheet can be made of the forms."""


class NoRow(PadError):
    """A row is not of the kind that is wanted."""


class TwoValues(PadError):
    """Several values are put as one text; told is the list of them."""

    def __init__(self, told):
        PadError.__init__(self, "several values are put as this text")
        self.told = list(told)


class NoForm(PadError):
    """A text tells no form; at is the number of the first word that is amiss."""

    def __init__(self, at):
        PadError.__init__(self, f"word {at} can't stand there")
        self.at = at


class NoLine(PadError):
    """A line is that of no row; at is the line's number."""

    def __init__(self, at):
        PadError.__init__(self, f"line {at} is that of no row")
        self.at = at


class TooMany(PadError):
    """Columns have too many places; number is how many they have."""

    def __init__(self, number):
        PadError.__init__(self, f"{number} places are too many")
        self.number = number


class TwoRows(PadError):
    """A line is that of several rows; at is its number, one and other are two of them."""

    def __init__(self, at, one, other):
        PadError.__init__(self, f"line {at} is that of several rows")
        self.at = at
        self.one = list(one)
        self.other = list(other)
