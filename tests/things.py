"""What several tests hand in, and how they ask."""

import itertools


class Prickly:
    """A thing that can't be compared, counted, hashed or shown."""

    __hash__ = None

    def refuse(self, *rest):
        raise RuntimeError("this thing was touched")

    __eq__ = __lt__ = __le__ = __gt__ = __ge__ = refuse
    __bool__ = __len__ = __repr__ = __str__ = refuse


def no_wholes():
    """Things that are no whole numbers."""
    return [True, False, None, "", "1", "12", b"1", 1.0, 0.5, float("nan"), float("inf"), 1j,
            [], [1], (), (1,), (1, 2), {}, {1: 2}, {1}, int, len, object(), Prickly()]


def no_texts():
    """Things that are no texts."""
    return [thing for thing in no_wholes() if not isinstance(thing, str)] + [
        0, 1, 7, -1, b"", b"12", bytearray(b"1"), ["1"], ("1",), ("1", "2"), {"1": "1"}, {"1"}, str]


def refusal_of(call, *handed):
    """The class of what a call refuses with, itself and none above it; None where it answers."""
    try:
        call(*handed)
    except Exception as refusal:
        return refusal.__class__
    return None


def texts_of(signs, most):
    """All texts of these signs, shorter ones first, from the text without signs to those of the most."""
    return ["".join(row) for length in range(most + 1) for row in itertools.product(signs, repeat=length)]


def pair_of(value):
    """The tuple that is worth as much as one of Python's own fractions."""
    return (value.numerator, value.denominator)


SIXTY = 10 ** 60 - 1  # the greatest number of sixty figures
SIGNS = [chr(code) for code in range(ord(" "), ord("~") + 1) if chr(code) != "%"]
ALL_FIGURES = "0123456789abcdef"
