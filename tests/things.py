"""What several tests hand in."""


class Prickly:
    """A thing that can't be compared, counted, hashed or shown."""

    __hash__ = None

    def refuse(self, *rest):
        raise RuntimeError("this thing was touched")

    __eq__ = __lt__ = __le__ = __gt__ = __ge__ = refuse
    __bool__ = __len__ = __repr__ = __str__ = refuse


def no_wholes():
    """Things that are no whole numbers."""
    return [True, False, None, "", "1", "12", b"1", 1.0, 0.5, float("nan"), float("inf"), 1j,
            [], [1], (), (1,), (1, 2), {}, {1: 2}, {1}, int, len, object(), Prickly()]


def pair_of(value):
    """The tuple that is worth as much as one of Python's own fractions."""
    return (value.numerator, value.denominator)


SIXTY = 10 ** 60 - 1  # the greatest number of sixty figures
