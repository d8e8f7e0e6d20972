"""The language of forms: a form is shown as the text that tells it."""

from padwright.numbers import NumberForm
from padwright.signs import SIGN_SETS
from padwright.words import WordForm


def show_form(form):
    """Give the text that tells a form."""
    if isinstance(form, NumberForm):
        words = number_words(form) + last_words(form, "right")
    elif isinstance(form, WordForm):
        words = word_words(form) + last_words(form, "left")
    else:
        words = choice_words(form) + last_words(form, "left")
    return " ".join(words)


def number_words(form):
    """Give the words that tell a form of numbers, up to the last clauses."""
    words = ["number", str(form.figures), str(form.places)]
    words.extend(clause("base", str(form.base), "10"))
    words.extend(clause("sign", form.sign, "minus"))
    if form.size > 0:
        words.extend(["groups", str(form.size), sign_word(form.mark)])
    words.extend(clause("point", sign_word(form.point), "."))
    words.extend(clause("way", form.way, "near"))
    return words


def word_words(form):
    """Give the words that tell a form of words, up to the last clauses."""
    words = ["word", signs_word(form.signs.replace(" ", "")), str(form.least), str(form.most)]
    if " " in form.signs:
        words.append("blank")
    return words


def choice_words(form):
    """Give the words that tell a form of names, up to the last clauses."""
    return ["choice", str(len(form.names))] + form.names


def last_words(form, side):
    """Give the words of the last clauses; the side is the one for where none is told."""
    words = clause("width", str(form.width), "0")
    words.extend(clause("fill", sign_word(form.fill), "blank"))
    words.extend(clause("side", form.side, side))
    if form.strict:
        words.append("strict")
    return words


def clause(name, word, untold):
    """Give the words of a clause; none where the word is the one that holds without the clause."""
    return [] if word == untold else [name, word]


def sign_word(sign):
    """Give the word that tells a sign."""
    return "blank" if sign == " " else sign


def signs_word(signs):
    """Give the word that tells the signs of words, the blank aside."""
    for name in SIGN_SETS:
        if SIGN_SETS[name] == signs:
            return name
    return "=" + signs
