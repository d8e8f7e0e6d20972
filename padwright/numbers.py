"""Forms of numbers."""

from padwright.bodies import body_of, number_in
from padwright.ends import ends_of, signed, unsigned
from padwright.errors import NoBody, NoCore, NoValue, TooGreat
from padwright.forms import Form
from padwright.grids import grid_value, gridded
from padwright.ratios import is_fraction
from padwright.strips import stripped_inside
from padwright.wholes import power_of


class NumberForm(Form):
    """A form that puts fractions, as numbers of a grid."""

    def __init__(self, figures, places, base=10, sign="minus", size=0, mark=",", point=".", way="near",
                 width=0, fill=" ", side="right", strict=False):
        Form.__init__(self, width, fill, side, strict)
        self.figures = figures
        self.places = places
        self.base = base
        self.sign = sign
        self.size = size
        self.mark = mark
        self.point = point
        self.way = way

    def core(self, value):
        """Give the core of a fraction."""
        if not is_fraction(value):
            raise NoValue("no fraction")
        k = gridded(value, self.base, self.places, self.way)
        if self.is_too_great(abs(k)):
            raise TooGreat("too many figures ahead of the point")
        body = body_of(abs(k), self.base, self.places, self.point, self.size, self.mark)
        return signed(body, self.sign, k < 0)

    def values_for(self, text):
        """Give the list of all numbers of the form that are put as a text, by rising worth."""
        ks = self.numbers_in(text, False) + self.numbers_in(text, True)
        return [grid_value(k, self.base, self.places) for k in sorted(ks)]

    def widened(self, width):
        """Give a form of another width that is alike in all else."""
        return NumberForm(self.figures, self.places, self.base, self.sign, self.size, self.mark, self.point, self.way,
                          width, self.fill, self.side, self.strict)

    def shortest_core(self):
        """Give a core that is as short as any."""
        # In no style is the sign of numbers below nought shorter than that of the others.
        return self.core((0, 1))

    def lead_of(self, core):
        """Give what stands ahead of the body in a core."""
        return ends_of(self.sign, unsigned(core, self.sign)[0])[0]

    def is_too_great(self, number):
        """Tell whether the number of the grid whose k is number, from 0 on, has too many figures ahead of the point."""
        return number >= power_of(self.base, self.figures + self.places)

    def numbers_in(self, text, below):
        """Give the k of each number, either of those below nought or of the others, that is put as a text."""
        ks = [self.number_with(core, below) for core in self.cores_in(text, below)]
        return [k for k in ks if k is not None]

    def cores_in(self, text, below):
        """Give all that is filled to a text, whether or not it is a core, its lead being that of such numbers."""
        if self.side != "inside":
            return self.unfilled(text)
        lead = ends_of(self.sign, below)[0]
        cores = [lead + rest for rest in stripped_inside(text, lead, self.width, self.fill)]
        return [core for core in cores if not self.is_too_wide(core)]

    def number_with(self, core, below):
        """Give the k of the number that the form tells, below nought or not, with this core; None where none has it."""
        try:
            parts = unsigned(core, self.sign)
            number = number_in(parts[1], self.base, self.places, self.point, self.size, self.mark)
        except (NoCore, NoBody):
            return None
        if parts[0] != below or self.is_too_great(number):
            return None
        if not below:
            return number
        # Nought is never put with the sign of one below it.
        return -number if number > 0 else None
