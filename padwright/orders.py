"""Whether the texts of a form's numbers from nought on stand in the order of the numbers."""

from padwright.grids import grid_value
from padwright.wholes import power_of


def in_order(form):
    """Give None where the texts stand in the order of the numbers, else a tuple of two numbers of which they don't."""
    # Numbers with as many figures ahead of the point have their figures at the same places: their texts stand in
    # order. So it is enough to look at the last number with so many figures and the first one with one more.
    for length in range(1, form.figures):
        k = power_of(form.base, length + form.places)
        one = grid_value(k - 1, form.base, form.places)
        other = grid_value(k, form.base, form.places)
        if form.is_too_wide(form.core(other)):
            # All that follow have cores that are as long or longer.
            return None
        if not form.put(one) < form.put(other):
            return (one, other)
    return None
