"""What all forms share: a width, a fill, a side, strictness, and how cores become texts."""

from padwright.errors import NoText, TooWide, TwoValues
from padwright.pads import padded, padded_inside
from padwright.strips import stripped


class Form:
    """A form without a kind of values: the classes under it tell what their values are and how they are read."""

    def __init__(self, width, fill, side, strict):
        self.width = width
        self.fill = fill
        self.side = side
        self.strict = strict

    def put(self, value):
        """Give the text as which a value is put."""
        core = self.core(value)
        if self.is_too_wide(core):
            raise TooWide("the core is longer than the width")
        return self.filled(core)

    def value_of(self, text):
        """Give the one value that is put as a text."""
        told = self.values_for(text)
        if len(told) == 0:
            raise NoText("no value is put as this text")
        if len(told) > 1:
            raise TwoValues(told)
        return told[0]

    def is_too_wide(self, core):
        """Tell whether a core is one that the form refuses for its length."""
        return self.strict and len(core) > self.width

    def puts_some(self):
        """Tell whether there is a value that the form puts."""
        return not self.is_too_wide(self.shortest_core())

    def filled(self, core):
        """Give a core with its fills."""
        if self.side != "inside":
            return padded(core, self.width, self.fill, self.side)
        # Only numbers have a lead, so only their forms have this side.
        lead = self.lead_of(core)
        return padded_inside(lead, core[len(lead):], self.width, self.fill)

    def unfilled(self, text):
        """Give the list of all that is filled to a text at a side but inside, whether or not it is a core."""
        return [core for core in stripped(text, self.width, self.fill, self.side) if not self.is_too_wide(core)]
