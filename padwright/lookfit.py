"""Looks and texts: which texts fit a look, which look a value has, and which value of a look is put as a text."""

from padwright.errors import NoText
from padwright.looks import core_looks, looks_of


def fits(look, text):
    """Tell whether a text has as many signs as a look has cells, each sign in its cell."""
    if len(text) != len(look):
        return False
    return all([text[at] in look[at] for at in range(len(look))])


def look_for(form, value):
    """Give the number of the look that a value has, in the list of the form's looks."""
    # What put refuses has no look.
    form.put(value)
    core = form.core(value)
    # A text may fit several looks, but a core fits the cells of one kind of cores alone.
    return [fits(cells[0] + cells[1], core) for cells in core_looks(form)].index(True)


def value_in(form, at, text):
    """Give the one value with the look of this number that is put as a text."""
    if not fits(looks_of(form)[at], text):
        raise NoText("the text doesn't fit the look")
    return [value for value in form.values_for(text) if look_for(form, value) == at][0]
