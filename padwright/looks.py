"""Looks: the shapes that the texts of a form have, each a list of cells, one for each sign of the text.

The cells of a core are told in two rows, lead and rest: fills may stand between them.
"""

from padwright.ends import ends_of
from padwright.figures import FIGURES
from padwright.groups import parts_of
from padwright.numbers import NumberForm
from padwright.pads import pads_of
from padwright.words import WordForm


def looks_of(form):
    """Give the list of the looks of a form."""
    return [filled_look(form, cells[0], cells[1]) for cells in core_looks(form)]


def filled_look(form, lead, rest):
    """Give the look of the texts whose cores have these cells."""
    length = len(lead) + len(rest)
    if form.side == "inside":
        # Seen from the rest, the fills stand as at the right.
        return lead + [form.fill] * pads_of(length, form.width, "right")[0] + rest
    pads = pads_of(length, form.width, form.side)
    return [form.fill] * pads[0] + lead + rest + [form.fill] * pads[1]


def core_looks(form):
    """Give for each look of a form, in their order, the tuple (lead, rest) of the cells of its cores."""
    if isinstance(form, NumberForm):
        cores = number_cores(form)
    elif isinstance(form, WordForm):
        cores = [([], [form.signs] * length) for length in range(form.least, form.most + 1)]
    else:
        cores = [([], list(name)) for name in form.names]
    return [cells for cells in cores if not form.is_too_wide(cells[0] + cells[1])]


def number_cores(form):
    """Give the lead and the rest of each kind of cores of numbers, first of those not below nought."""
    cores = [signed_cells(form, row, False) for row in rows_from_nought(form)]
    return cores + [signed_cells(form, row, True) for row in rows_below_nought(form)]


def rows_from_nought(form):
    """Give the cells of the figures of numbers from nought on, by rising numbers of figures ahead of the point."""
    every = FIGURES[:form.base]
    rows = []
    for length in range(1, form.figures + 1):
        first = every if length == 1 else every[1:]
        rows.append([first] + [every] * (length - 1 + form.places))
    return rows


def rows_below_nought(form):
    """Give the cells of the figures of numbers below nought, by rising greatness."""
    every = FIGURES[:form.base]
    rows = []
    # Counted are the figures from the first one that isn't 0, whether it stands ahead of the point or behind it.
    for length in range(1, form.figures + form.places + 1):
        noughts = ["0"] * (form.places + 1 - length)
        rows.append(noughts + [every[1:]] + [every] * (length - 1))
    return rows


def signed_cells(form, row, below):
    """Give the tuple (lead, rest) of the cells of cores whose figures have these cells."""
    ends = ends_of(form.sign, below)
    return (list(ends[0]), body_cells(form, row) + list(ends[1]))


def body_cells(form, row):
    """Give the cells of bodies whose figures have these cells."""
    cut = len(row) - form.places
    cells = grouped_cells(row[:cut], form.size, form.mark)
    if form.places == 0:
        return cells
    return cells + [form.point] + row[cut:]


def grouped_cells(row, size, mark):
    """Give the cells with a mark ahead of each size of them, but none at the front."""
    if size == 0:
        return row
    cells = []
    # Parts are only cut out, so a list is parted like a text.
    for part in parts_of(row, size, 0):
        cells.extend([mark] + part)
    return cells[1:]
