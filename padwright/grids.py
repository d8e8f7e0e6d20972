"""Grids: the numbers k / base ** places, k any whole number."""

from padwright.ratios import fraction
from padwright.wholes import power_of


def gridded(value, base, places, way):
    """Give the k of the number of the grid to which a fraction goes by a way."""
    top = value[0] * power_of(base, places)
    bottom = value[1]
    below = top // bottom
    rest = top % bottom
    if rest > 0 and goes_up(below, rest, bottom, way):
        return below + 1
    return below


def goes_up(below, rest, bottom, way):
    """Tell whether a value beside the grid, rest / bottom steps above below, goes to the number above it."""
    if way == "down":
        return False
    if way == "up":
        return True
    if way == "cut":
        return below < 0
    if 2 * rest != bottom:
        return 2 * rest > bottom
    # Midway: near takes the greater k, even the even one.
    return way == "near" or below % 2 == 1


def grid_value(k, base, places):
    """Give the fraction k / base ** places."""
    return fraction(k, power_of(base, places))
