"""Whole numbers from 0 on, written in the figures of a base from 2 to 16."""

from padwright.errors import NoFigures

FIGURES = "0123456789abcdef"
MOST_FIGURES = 240


def figures_of(number, base):
    """Give the figures of a number from 0 on, with no 0 ahead but in 0 itself."""
    text = FIGURES[number % base]
    left = number // base
    while left > 0:
        text = FIGURES[left % base] + text
        left = left // base
    return text


def number_of(text, base):
    """Give the number that the figures of a text write; noughts may stand ahead."""
    # Python's own int would also read signs, blanks, a 0x or a _ among the figures.
    if not isinstance(text, str) or not 1 <= len(text) <= MOST_FIGURES:
        raise NoFigures("a number is written in 1 to 240 figures")
    number = 0
    for sign in text:
        worth = FIGURES.find(sign)
        if worth < 0 or worth >= base:
            raise NoFigures("a sign is no figure of the base")
        number = number * base + worth
    return number
