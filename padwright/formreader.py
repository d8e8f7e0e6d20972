"""The language of forms: a text of words is read to the form that it tells."""

from padwright.ends import STYLES
from padwright.errors import NoFigures, NoForm
from padwright.figures import figures_of, number_of
from padwright.numbers import NumberForm
from padwright.signs import SIGN_SETS, is_text
from padwright.words import ChoiceForm, WordForm

WAYS = ("down", "up", "cut", "near", "even")
SIDES = ("left", "right", "middle")


class Words:
    """The words of a text, taken from the front one by one; at is the number of the next one."""

    def __init__(self, words):
        self.words = words
        self.at = 0

    def peek(self):
        """Give the next word, which must be there."""
        if self.at == len(self.words):
            raise NoForm(self.at)
        return self.words[self.at]

    def go_past(self, can_stand):
        """Go past the next word, or refuse it where it can't stand."""
        if not can_stand:
            raise NoForm(self.at)
        self.at = self.at + 1

    def has_clause(self, word):
        """Tell whether the next word is this one, which begins a clause; it is gone past then."""
        if self.at == len(self.words) or self.peek() != word:
            return False
        self.at = self.at + 1
        return True

    def take_number(self, least, most):
        """Give the number, from a least to a most, that the next word tells."""
        number = told_number(self.peek())
        self.go_past(number is not None and least <= number <= most)
        return number

    def take_sign(self):
        """Give the sign that the next word tells."""
        word = self.peek()
        self.go_past(word == "blank" or len(word) == 1)
        return " " if word == "blank" else word

    def take_one_of(self, choices):
        """Give the next word, which must be one of these."""
        word = self.peek()
        self.go_past(word in choices)
        return word

    def take_signs(self):
        """Give the signs of words that the next word tells."""
        signs = told_signs(self.peek())
        self.go_past(signs is not None)
        return signs

    def take_name(self, names):
        """Give the next word, which must be a name that is not among those ahead of it."""
        word = self.peek()
        self.go_past(1 <= len(word) <= 12 and word not in names)
        return word


def read_form(text):
    """Give the form that a text tells."""
    if not is_text(text):
        raise NoForm(0)
    words = Words(text.split(" "))
    form = read_words(words)
    if not form.puts_some():
        # Then the form is strict, and the word `strict` is the last that was taken.
        raise NoForm(words.at - 1)
    if words.at < len(words.words):
        raise NoForm(words.at)
    return form


def read_words(words):
    """Give the form that words tell, as far as words can belong to it."""
    kind = words.take_one_of(("number", "word", "choice"))
    if kind == "number":
        return read_number_form(words)
    if kind == "word":
        return read_word_form(words)
    return read_choice_form(words)


def read_number_form(words):
    """Give the form of numbers that is told behind the word `number`."""
    figures = words.take_number(1, 12)
    places = words.take_number(0, 6)
    base = words.take_number(2, 16) if words.has_clause("base") else 10
    sign = words.take_one_of(list(STYLES)) if words.has_clause("sign") else "minus"
    groups = read_groups(words)
    point = words.take_sign() if words.has_clause("point") else "."
    way = words.take_one_of(WAYS) if words.has_clause("way") else "near"
    last = read_last(words, SIDES + ("inside",), "right")
    return NumberForm(figures, places, base, sign, groups[0], groups[1], point, way,
                      last[0], last[1], last[2], last[3])


def read_groups(words):
    """Give the tuple (size, mark) of a clause of groups; of none where it isn't told."""
    if not words.has_clause("groups"):
        return (0, ",")
    size = words.take_number(1, 9)
    return (size, words.take_sign())


def read_word_form(words):
    """Give the form of words that is told behind the word `word`."""
    signs = words.take_signs()
    least = words.take_number(0, 24)
    most = words.take_number(least, 24)
    if words.has_clause("blank"):
        # The blank stands ahead of all other signs.
        signs = " " + signs
    last = read_last(words, SIDES, "left")
    return WordForm(signs, least, most, last[0], last[1], last[2], last[3])


def read_choice_form(words):
    """Give the form of names that is told behind the word `choice`."""
    wanted = words.take_number(1, 12)
    names = []
    for turn in range(wanted):
        names.append(words.take_name(names))
    last = read_last(words, SIDES, "left")
    return ChoiceForm(names, last[0], last[1], last[2], last[3])


def read_last(words, sides, side):
    """Give the tuple (width, fill, side, strict) of the last clauses; the side is the one for where none is told."""
    width = words.take_number(1, 40) if words.has_clause("width") else 0
    fill = words.take_sign() if words.has_clause("fill") else " "
    if words.has_clause("side"):
        side = words.take_one_of(sides)
    return (width, fill, side, words.has_clause("strict"))


def told_number(word):
    """Give the number that a word writes without a 0 ahead, but in 0 itself; None where it writes none."""
    try:
        number = number_of(word, 10)
    except NoFigures:
        return None
    return number if figures_of(number, 10) == word else None


def told_signs(word):
    """Give the signs that a word tells by a name or behind a `=`; None where it tells none."""
    if word in SIGN_SETS:
        return SIGN_SETS[word]
    signs = word[1:]
    if not word.startswith("=") or signs == "":
        return None
    return signs if is_rising(signs) else None


def is_rising(signs):
    """Tell whether each sign stands behind the one ahead of it in the order of signs."""
    return all([signs[at] < signs[at + 1] for at in range(len(signs) - 1)])
