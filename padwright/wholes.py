"""Whole numbers."""


def is_whole(thing):
    """Tell whether a thing, whatever it is, is a whole number."""
    # A truth is an int to Python, but no whole number here.
    return isinstance(thing, int) and not isinstance(thing, bool)


def power_of(base, times):
    """Give base times itself so many times; 1 with times 0."""
    power = 1
    for turn in range(times):
        power = power * base
    return power


def common_divisor(one, other):
    """Give the greatest whole number that divides both, which are not both 0."""
    greater = abs(one)
    lesser = abs(other)
    while lesser != 0:
        rest = greater % lesser
        greater = lesser
        lesser = rest
    return greater
