"""Styles: what stands ahead of a body and behind it, by whether the number is below nought."""

from padwright.errors import NoCore
from padwright.figures import FIGURES

# Of each style lead and tail, first of numbers not below nought, then of those below.
STYLES = {
    "minus": (("", ""), ("-", "")),
    "plus": (("+", ""), ("-", "")),
    "blank": ((" ", ""), ("-", "")),
    "brackets": (("", ""), ("(", ")")),
    "behind": (("", ""), ("", "-")),
}


def ends_of(style, below):
    """Give the tuple (lead, tail) of a style."""
    if below:
        return STYLES[style][1]
    return STYLES[style][0]


def signed(body, style, below):
    """Give a body with its lead and its tail."""
    ends = ends_of(style, below)
    return ends[0] + body + ends[1]


def unsigned(core, style):
    """Give the tuple (below, body) of the one way in which a core is signed in a style."""
    # No lead or tail is a figure: so a core is never signed in both ways.
    for below in (False, True):
        ends = ends_of(style, below)
        body = core[len(ends[0]):len(core) - len(ends[1])]
        if stands_between_figures(body) and signed(body, style, below) == core:
            return (below, body)
    raise NoCore("no body is signed so")


def stands_between_figures(body):
    """Tell whether a body has signs, and begins and ends with a figure of whatever base."""
    return body != "" and body[0] in FIGURES and body[-1] in FIGURES
