"""Forms of words, and forms of names."""

from padwright.errors import NoValue
from padwright.forms import Form


class WordForm(Form):
    """A form that puts words: texts of told signs, of a least to a most length."""

    def __init__(self, signs, least, most, width=0, fill=" ", side="left", strict=False):
        Form.__init__(self, width, fill, side, strict)
        self.signs = signs
        self.least = least
        self.most = most

    def core(self, value):
        """Give the core of a word."""
        if not self.is_word(value):
            raise NoValue("no such word")
        return value

    def values_for(self, text):
        """Give the list of all words that are put as a text, in the order of texts."""
        return sorted([core for core in self.unfilled(text) if self.is_word(core)])

    def widened(self, width):
        """Give a form of another width that is alike in all else."""
        return WordForm(self.signs, self.least, self.most, width, self.fill, self.side, self.strict)

    def shortest_core(self):
        """Give a core that is as short as any."""
        return self.signs[0] * self.least

    def is_word(self, thing):
        """Tell whether a thing, whatever it is, is a word of the form."""
        if not isinstance(thing, str) or not self.least <= len(thing) <= self.most:
            return False
        return all([sign in self.signs for sign in thing])


class ChoiceForm(Form):
    """A form that puts names out of a list."""

    def __init__(self, names, width=0, fill=" ", side="left", strict=False):
        Form.__init__(self, width, fill, side, strict)
        self.names = list(names)

    def core(self, value):
        """Give the core of a name."""
        # Of a thing that is no text it can't be asked whether it is among the names: it may refuse to be compared.
        if not isinstance(value, str) or value not in self.names:
            raise NoValue("none of the names")
        return value

    def values_for(self, text):
        """Give the list of all names that are put as a text, in the order of the form's names."""
        cores = self.unfilled(text)
        return [name for name in self.names if name in cores]

    def widened(self, width):
        """Give a form of another width that is alike in all else."""
        return ChoiceForm(self.names, width, self.fill, self.side, self.strict)

    def shortest_core(self):
        """Give a core that is as short as any."""
        return min(self.names, key=len)
