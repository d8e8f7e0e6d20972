"""What several tests hand in, and how they ask."""

import itertools
from fractions import Fraction

from padwright.errors import NoText, TwoValues
from padwright.numbers import NumberForm
from padwright.words import ChoiceForm, WordForm


class Prickly:
    """A thing that can't be compared, counted, hashed or shown."""

    __hash__ = None

    def refuse(self, *rest):
        raise RuntimeError("this thing was touched")

    __eq__ = __lt__ = __le__ = __gt__ = __ge__ = refuse
    __bool__ = __len__ = __repr__ = __str__ = refuse


def no_wholes():
    """Things that are no whole numbers."""
    return [True, False, None, "", "1", "12", b"1", 1.0, 0.5, float("nan"), float("inf"), 1j,
            [], [1], (), (1,), (1, 2), {}, {1: 2}, {1}, int, len, object(), Prickly()]


def no_texts():
    """Things that are no texts."""
    return [thing for thing in no_wholes() if not isinstance(thing, str)] + [
        0, 1, 7, -1, b"", b"12", bytearray(b"1"), ["1"], ("1",), ("1", "2"), {"1": "1"}, {"1"}, str]


def no_fractions():
    """Things that are no fractions."""
    # The tuple (1, 2) is no whole number, but a fraction.
    things = [thing for thing in no_wholes() + no_texts() if not isinstance(thing, tuple) or thing != (1, 2)]
    return things + [(2, 4), (1, 0), (1, -2), (0, 2), (True, 2), (1, True), [1, 2], (1,), (1, 2, 3), ("1", "2"),
                     (1.0, 2), (Prickly(), 2), (1, Prickly()), Fraction(1, 2), "1/2", (2 * SIXTY, 2), "0", 0, 1]


def refusal_of(call, *handed):
    """The class of what a call refuses with, itself and none above it; None where it answers."""
    try:
        call(*handed)
    except Exception as refusal:
        return refusal.__class__
    return None


def reading_of(form, text):
    """What value_of makes of a text: the class that it refuses with, None where it answers; and the values."""
    try:
        return (None, [form.value_of(text)])
    except NoText as refusal:
        return (refusal.__class__, [])
    except TwoValues as refusal:
        return (refusal.__class__, refusal.told)


def reading_told(values):
    """The same by the words of 4.5, all values that are put as the text being told."""
    return ({0: NoText, 1: None}.get(len(values), TwoValues), values)


def texts_of(signs, most):
    """All texts of these signs, shorter ones first, from the text without signs to those of the most."""
    return ["".join(row) for length in range(most + 1) for row in itertools.product(signs, repeat=length)]


def pair_of(value):
    """The tuple that is worth as much as one of Python's own fractions."""
    return (value.numerator, value.denominator)


def k_told(value, base, places, way):
    """The k, picked from the numbers of the grid round the value by the words of 1.4."""
    worth = Fraction(*value)
    step = Fraction(1, base ** places)
    about = int(worth / step)
    ks = range(about - 3, about + 4)
    down = max(k for k in ks if k * step <= worth)
    up = min(k for k in ks if k * step >= worth)
    nearest = min(abs(k * step - worth) for k in ks)
    near = [k for k in ks if abs(k * step - worth) == nearest]
    return {
        "down": down,
        "up": up,
        "cut": min((down, up), key=abs),
        "near": max(near),
        "even": near[0] if len(near) == 1 else [k for k in near if k % 2 == 0][0],
    }[way]


def written(number, base):
    """A number in figures of a base, by the words of 1.5."""
    text = ""
    while number or not text:
        text = ALL_FIGURES[number % base] + text
        number //= base
    return text


def body_told(number, base, places, point, size, mark):
    """The body, by the words of 2.2: the whole part in groups, the point, the rest with noughts ahead."""
    whole, rest = divmod(number, base ** places)
    figures = written(whole, base)
    groups = [figures]
    while size and len(groups[0]) > size:
        groups[:1] = [groups[0][:-size], groups[0][-size:]]
    body = mark.join(groups)
    if places > 0:
        body += point + (places * "0" + written(rest, base))[-places:]
    return body


def filled_told(text, width, fill, side):
    """A text with its fills, by the words of 3.1."""
    lacks = max(0, width - len(text))
    ahead = {"left": 0, "right": lacks, "middle": lacks // 2}[side]
    return fill * ahead + text + fill * (lacks - ahead)


def fields_of(form):
    """The fields of a form, by their names."""
    return {name: getattr(form, name) for name in FIELDS[form.__class__]}


def put_told(form, core, lead=""):
    """The text of a core, by the words of 4.1 and 4.2; None where the form refuses it for its width."""
    if form.strict and len(core) > form.width:
        return None
    if form.side == "inside":
        return lead + form.fill * max(0, form.width - len(core)) + core[len(lead):]
    return filled_told(core, form.width, form.fill, form.side)


def core_told(form, k):
    """The core of the number of the grid whose k is told, by the words of 4.2."""
    lead, tail = ENDS[form.sign, k < 0]
    return lead + body_told(abs(k), form.base, form.places, form.point, form.size, form.mark) + tail


def text_told(form, k):
    """The text of that number; None where the form refuses it for its width."""
    return put_told(form, core_told(form, k), ENDS[form.sign, k < 0][0])


def ks_told(form):
    """The k of each number that a form of numbers tells, rising."""
    end = form.base ** (form.figures + form.places)
    return range(1 - end, end)


def number_told(form, k):
    """The fraction k / base ** places of the form's grid."""
    return pair_of(Fraction(k, form.base ** form.places))


def shape_told(form, k):
    """What tells the look of a number, by the words of 6.3: the looks stand in the order of these tuples."""
    whole, rest = divmod(abs(k), form.base ** form.places)
    ahead = len(written(whole, form.base))
    if k >= 0:
        return (0, ahead)
    if whole > 0:
        return (2, ahead)
    places = written(rest, form.base).rjust(form.places, "0")
    first = len(places) - len(places.lstrip("0"))
    return (1, -first)


def values_by_look(form):
    """For each look of a small form, by the words of 6.3, the list of (value, text) of all values that have it."""
    if isinstance(form, NumberForm):
        shapes = {}
        for k in ks_told(form):
            shapes.setdefault(shape_told(form, k), []).append((number_told(form, k), text_told(form, k)))
        told = [shapes[shape] for shape in sorted(shapes)]
    elif isinstance(form, WordForm):
        told = [[(word, put_told(form, word)) for word in texts_of(form.signs, form.most) if len(word) == length]
                for length in range(form.least, form.most + 1)]
    else:
        told = [[(name, put_told(form, name))] for name in form.names]
    return [values for values in told if values[0][1] is not None]


def small_numbers(widths):
    """Forms of few numbers, in each style, at each side and of these widths, strict and not."""
    # Figures, places, base, size of groups.
    sizes = ((1, 0, 2, 0), (4, 0, 2, 1), (3, 1, 2, 2), (2, 1, 3, 1), (1, 3, 2, 0), (1, 2, 3, 1), (2, 0, 5, 0))
    for shape, sign, side, width, strict in itertools.product(sizes, STYLES, ALL_SIDES, widths, (False, True)):
        figures, places, base, size = shape
        yield NumberForm(figures, places, base, sign, size, ",", ".", "near", width, "*", side, strict)


def odd_numbers():
    """Forms of few numbers whose mark, point and fill are figures, signs of numbers, or one another."""
    for sign, side, (mark, point, fill) in itertools.product(STYLES, ALL_SIDES, (
            "010", "101", "--1", "---", "0.-", ",0 ", "+-+", "(1)", ")((", "  -", "..0", "111", "000", "-+0", " - ")):
        yield NumberForm(2, 1, 3, sign, 1, mark, point, "near", 6, fill, side)
        yield NumberForm(3, 0, 2, sign, 1, mark, point, "near", 5, fill, side, True)


def small_words(widths):
    """Forms of few words and of names, at each side and of these widths, strict and not."""
    for width, side, strict, fill in itertools.product(widths, SIDES, (False, True), " ab*"):
        for signs, least, most in (("a", 0, 4), ("ab", 1, 3), (" b", 0, 3), ("*ab", 2, 2), ("b", 0, 0)):
            yield WordForm(signs, least, most, width, fill, side, strict)
        # Some of these have alike looks in some widths.
        for names in (["a"], ["b", "a"], ["a", "ab", "abb", "b"], ["a*", "a", "*a", "a**"], ["bbbb", "bb", "b", "bbb"]):
            yield ChoiceForm(names, width, fill, side, strict)


SIXTY = 10 ** 60 - 1  # the greatest number of sixty figures
SIGNS = [chr(code) for code in range(ord(" "), ord("~") + 1) if chr(code) != "%"]
ALL_FIGURES = "0123456789abcdef"
SIDES = ("left", "right", "middle")
ALL_SIDES = SIDES + ("inside",)
STYLES = ("minus", "plus", "blank", "brackets", "behind")
WAYS = ("down", "up", "cut", "near", "even")
ENDS = {
    ("minus", False): ("", ""), ("minus", True): ("-", ""),
    ("plus", False): ("+", ""), ("plus", True): ("-", ""),
    ("blank", False): (" ", ""), ("blank", True): ("-", ""),
    ("brackets", False): ("", ""), ("brackets", True): ("(", ")"),
    ("behind", False): ("", ""), ("behind", True): ("", "-"),
}
FIELDS = {
    NumberForm: "figures places base sign size mark point way width fill side strict".split(),
    WordForm: "signs least most width fill side strict".split(),
    ChoiceForm: "names width fill side strict".split(),
}
