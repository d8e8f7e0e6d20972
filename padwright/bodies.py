"""Bodies: numbers of a grid, from nought on, in figures with groups ahead of a point and places behind it.

The figures of a number's k are those of its whole part and, behind them, those
of its rest: so the point only has to be put ahead of the last places of them.
"""

from padwright.errors import NoBody, NoFigures, NoGroups
from padwright.figures import figures_of, number_of
from padwright.groups import grouped, ungrouped


def body_of(number, base, places, point, size, mark):
    """Give the body of the number of the grid whose k is number, from 0 on."""
    # Where the whole part is 0, noughts are wanted for it and at the front of the rest.
    text = figures_of(number, base).rjust(places + 1, "0")
    cut = len(text) - places
    whole = grouped(text[:cut], size, mark)
    if places == 0:
        return whole
    return whole + point + text[cut:]


def number_in(body, base, places, point, size, mark):
    """Give the number, from 0 on, whose body a text is."""
    cut = whole_end(body, places, point)
    try:
        whole = ungrouped(body[:cut], size, mark)
        # The point is one sign; where there are no places there is none, and nothing stands here.
        number = number_of(whole + body[cut + 1:], base)
    except (NoGroups, NoFigures):
        raise NoBody("the groups or the figures are not those of a number") from None
    if len(whole) > 1 and whole[0] == "0":
        raise NoBody("a 0 stands ahead")
    return number


def whole_end(body, places, point):
    """Give how many signs of a body stand ahead of the point, or of its end where there are no places."""
    if places == 0:
        return len(body)
    cut = len(body) - places - 1
    if cut < 0 or body[cut] != point:
        raise NoBody("no point stands ahead of the places")
    return cut
