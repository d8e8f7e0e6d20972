"""Fractions: tuples (top, bottom) in lowest terms, the bottom from 1 on."""

from padwright.errors import NoNumber
from padwright.wholes import common_divisor, is_whole


def fraction(top, bottom):
    """Give the fraction that is worth top divided by bottom."""
    # The words don't show what was handed in: it may be a thing that can't be shown.
    if not is_whole(top) or not is_whole(bottom):
        raise NoNumber("top and bottom must be whole numbers")
    if bottom == 0:
        raise NoNumber("the bottom must not be 0")
    divisor = common_divisor(top, bottom)
    if bottom < 0:
        divisor = -divisor
    return (top // divisor, bottom // divisor)


def is_fraction(thing):
    """Tell whether a thing, whatever it is, is a fraction."""
    if not isinstance(thing, tuple) or len(thing) != 2:
        return False
    if not is_whole(thing[0]) or not is_whole(thing[1]):
        return False
    return thing[1] >= 1 and common_divisor(thing[0], thing[1]) == 1


def is_below(one, other):
    """Tell whether the one fraction is worth less than the other."""
    return one[0] * other[1] < other[0] * one[1]


def difference(one, other):
    """Give the one fraction less the other."""
    return fraction(one[0] * other[1] - other[0] * one[1], one[1] * other[1])
