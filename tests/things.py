"""What several tests hand in, and how they ask."""

import itertools
from fractions import Fraction

from padwright.errors import NoText, TwoValues


class Prickly:
    """A thing that can't be compared, counted, hashed or shown."""

    __hash__ = None

    def refuse(self, *rest):
        raise RuntimeError("this thing was touched")

    __eq__ = __lt__ = __le__ = __gt__ = __ge__ = refuse
    __bool__ = __len__ = __repr__ = __str__ = refuse


def no_wholes():
    """Things that are no whole numbers."""
    return [True, False, None, "", "1", "12", b"1", 1.0, 0.5, float("nan"), float("inf"), 1j,
            [], [1], (), (1,), (1, 2), {}, {1: 2}, {1}, int, len, object(), Prickly()]


def no_texts():
    """Things that are no texts."""
    return [thing for thing in no_wholes() if not isinstance(thing, str)] + [
        0, 1, 7, -1, b"", b"12", bytearray(b"1"), ["1"], ("1",), ("1", "2"), {"1": "1"}, {"1"}, str]


def refusal_of(call, *handed):
    """The class of what a call refuses with, itself and none above it; None where it answers."""
    try:
        call(*handed)
    except Exception as refusal:
        return refusal.__class__
    return None


def reading_of(form, text):
    """What value_of makes of a text: the class that it refuses with, None where it answers; and the values."""
    try:
        return (None, [form.value_of(text)])
    except NoText as refusal:
        return (refusal.__class__, [])
    except TwoValues as refusal:
        return (refusal.__class__, refusal.told)


def reading_told(values):
    """The same by the words of 4.5, all values that are put as the text being told."""
    return ({0: NoText, 1: None}.get(len(values), TwoValues), values)


def texts_of(signs, most):
    """All texts of these signs, shorter ones first, from the text without signs to those of the most."""
    return ["".join(row) for length in range(most + 1) for row in itertools.product(signs, repeat=length)]


def pair_of(value):
    """The tuple that is worth as much as one of Python's own fractions."""
    return (value.numerator, value.denominator)


def k_told(value, base, places, way):
    """The k, picked from the numbers of the grid round the value by the words of 1.4."""
    worth = Fraction(*value)
    step = Fraction(1, base ** places)
    about = int(worth / step)
    ks = range(about - 3, about + 4)
    down = max(k for k in ks if k * step <= worth)
    up = min(k for k in ks if k * step >= worth)
    nearest = min(abs(k * step - worth) for k in ks)
    near = [k for k in ks if abs(k * step - worth) == nearest]
    return {
        "down": down,
        "up": up,
        "cut": min((down, up), key=abs),
        "near": max(near),
        "even": near[0] if len(near) == 1 else [k for k in near if k % 2 == 0][0],
    }[way]


def written(number, base):
    """A number in figures of a base, by the words of 1.5."""
    text = ""
    while number or not text:
        text = ALL_FIGURES[number % base] + text
        number //= base
    return text


def body_told(number, base, places, point, size, mark):
    """The body, by the words of 2.2: the whole part in groups, the point, the rest with noughts ahead."""
    whole, rest = divmod(number, base ** places)
    figures = written(whole, base)
    groups = [figures]
    while size and len(groups[0]) > size:
        groups[:1] = [groups[0][:-size], groups[0][-size:]]
    body = mark.join(groups)
    if places > 0:
        body += point + (places * "0" + written(rest, base))[-places:]
    return body


def filled_told(text, width, fill, side):
    """A text with its fills, by the words of 3.1."""
    lacks = max(0, width - len(text))
    ahead = {"left": 0, "right": lacks, "middle": lacks // 2}[side]
    return fill * ahead + text + fill * (lacks - ahead)


SIXTY = 10 ** 60 - 1  # the greatest number of sixty figures
SIGNS = [chr(code) for code in range(ord(" "), ord("~") + 1) if chr(code) != "%"]
ALL_FIGURES = "0123456789abcdef"
SIDES = ("left", "right", "middle")
STYLES = ("minus", "plus", "blank", "brackets", "behind")
WAYS = ("down", "up", "cut", "near", "even")
ENDS = {
    ("minus", False): ("", ""), ("minus", True): ("-", ""),
    ("plus", False): ("+", ""), ("plus", True): ("-", ""),
    ("blank", False): (" ", ""), ("blank", True): ("-", ""),
    ("brackets", False): ("", ""), ("brackets", True): ("(", ")"),
    ("behind", False): ("", ""), ("behind", True): ("", "-"),
}
