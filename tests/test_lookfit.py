import itertools
import unittest
from fractions import Fraction

from padwright.errors import NoText, NoValue, TooGreat, TooWide
from padwright.lookfit import fits, look_for, value_in
from padwright.looks import looks_of
from padwright.numbers import NumberForm
from padwright.words import ChoiceForm, WordForm
from things import (ALL_SIDES, SIGNS, SIXTY, STYLES, WAYS, fields_of, k_told, no_fractions, no_texts, number_told,
                    odd_numbers, pair_of, refusal_of, small_numbers, small_words, texts_of, values_by_look)

TEN = "0123456789"
WIDTHS = (0, 2, 4, 7)


def other_texts(text):
    """Texts that are near to one: a sign less, a sign more, another sign."""
    yield text + " "
    for at in range(len(text) + 1):
        for sign in "0a-. ":
            yield text[:at] + sign + text[at:]
            yield text[:at] + sign + text[at + 1:]
        yield text[:at] + text[at + 1:]


class Fits(unittest.TestCase):
    """6.2: fits."""

    def test_ordinary(self):
        look = ["-", "123456789", TEN, ".", TEN]
        for text in ("-12.5", "-10.0", "-99.9"):
            self.assertIs(fits(look, text), True)
        for text in ("", "-", "12.5", "-12.", "-12.55", " -12.5", "-12.5 ", "+12.5", "-02.5", "-1a.5", "-12,5", "-12.x",
                     "-1.25", "5.21-"):
            self.assertIs(fits(look, text), False)

    def test_no_cells(self):
        self.assertIs(fits([], ""), True)
        for text in SIGNS + ["ab", "  ", "\n"]:
            self.assertIs(fits([], text), False)
        for look in (["a"], [" "], ["ab", "ab"]):
            self.assertIs(fits(look, ""), False)

    def test_each_sign_in_a_cell_of_one_sign(self):
        for sign, other in itertools.product(SIGNS, repeat=2):
            self.assertIs(fits([sign], other), sign == other)

    def test_each_sign_in_a_cell_of_several(self):
        for cell in ("0123456789abcdef", " ~", "!-A", "".join(SIGNS)):
            for sign in SIGNS + ["\n", "%", "\u00e4"]:
                self.assertIs(fits([cell], sign), sign in list(cell))

    def test_one_sign_that_is_not_in_its_cell(self):
        look = ["ab", "bc", "cd", "de"]
        for text in itertools.product("ab", "bc", "cd", "de"):
            self.assertIs(fits(look, "".join(text)), True)
            for at in range(4):
                for sign in "abcdef":
                    changed = "".join(text[:at]) + sign + "".join(text[at + 1:])
                    self.assertIs(fits(look, changed), sign in list(look[at]))

    def test_all_short_texts(self):
        for length in range(4):
            for look in itertools.product(("a", "b", "ab", "bc"), repeat=length):
                told = {"".join(signs) for signs in itertools.product(*look)}
                for text in texts_of("abc", 4):
                    self.assertIs(fits(list(look), text), text in told)

    def test_a_cell_is_no_text_to_be_found_as_a_whole(self):
        self.assertIs(fits(["ab"], "ab"), False)
        self.assertIs(fits(["abc", "abc"], "ab"), True)
        self.assertIs(fits(["a", "b"], "ba"), False)

    def test_long_ones(self):
        self.assertIs(fits(["ab"] * 40, "a" * 40), True)
        self.assertIs(fits(["ab"] * 40, "a" * 39), False)
        self.assertIs(fits(["ab"] * 40, "a" * 41), False)
        self.assertIs(fits(["ab"] * 40, "a" * 39 + "c"), False)
        self.assertIs(fits(["ab"] * 40, "c" + "a" * 39), False)

    def test_the_look_stays_as_it_is(self):
        look = ["ab", "c"]
        for text in ("ac", "bc", "cc", ""):
            fits(look, text)
        self.assertEqual(look, ["ab", "c"])


class LookFor(unittest.TestCase):
    """6.4: look_for."""

    def check(self, form):
        """Each value of a small form: its place in the list, and that its text fits the look there."""
        looks = looks_of(form)
        for at, values in enumerate(values_by_look(form)):
            for value, text in values:
                self.assertEqual(look_for(form, value), at, (value, vars(form)))
                self.assertIs(fits(looks[at], text), True)

    def test_ordinary(self):
        form = NumberForm(2, 1)
        told = {(0, 1): 0, (99, 10): 0, (10, 1): 1, (999, 10): 1, (-1, 10): 2, (-9, 10): 2, (-1, 1): 3, (-99, 10): 3,
                (-10, 1): 4, (-999, 10): 4}
        for value, at in told.items():
            self.assertEqual(look_for(form, value), at)
        self.assertEqual([look_for(WordForm("ab", 1, 3), word) for word in ("b", "ab", "bab")], [0, 1, 2])
        self.assertEqual([look_for(ChoiceForm(["yes", "no"]), name) for name in ("no", "yes")], [1, 0])

    def test_each_value_of_small_forms(self):
        for forms in (small_numbers(WIDTHS), odd_numbers(), small_words(range(6))):
            for form in forms:
                self.check(form)

    def test_several_looks_that_the_text_fits(self):
        form = ChoiceForm(["a", "a*", "b"], 2, "*")
        self.assertEqual([look_for(form, name) for name in ("a", "a*", "b")], [0, 1, 2])
        form = NumberForm(2, 0, width=2, fill="0", side="left")
        self.assertEqual((look_for(form, (5, 1)), look_for(form, (50, 1))), (0, 1))
        form = NumberForm(1, 0, width=3, fill="-", side="inside")
        self.assertEqual((look_for(form, (5, 1)), look_for(form, (-5, 1))), (0, 1))
        form = WordForm("*a", 0, 3, 3, "*")
        self.assertEqual([look_for(form, word) for word in ("", "*", "**", "***")], [0, 1, 2, 3])

    def test_looks_that_are_left_out_are_not_counted(self):
        form = NumberForm(3, 0, width=2, strict=True)
        self.assertEqual([look_for(form, value) for value in ((7, 1), (70, 1), (-7, 1))], [0, 1, 2])
        form = ChoiceForm(["abc", "d", "efg", "hi"], 2, strict=True)
        self.assertEqual([look_for(form, name) for name in ("d", "hi")], [0, 1])

    def test_fractions_beside_the_grid(self):
        parts = [Fraction(top, 12) for top in range(12)]
        for base, places, way in itertools.product((2, 3), (0, 1, 2), WAYS):
            form = NumberForm(2, places, base, way=way, sign="brackets", width=5)
            at_of = {value: at for at, values in enumerate(values_by_look(form)) for value, text in values}
            end = base ** (2 + places)
            for k, part in itertools.product(range(-end - 1, end + 1), parts):
                value = pair_of((k + part) / base ** places)
                goes_to = k_told(value, base, places, way)
                if abs(goes_to) < end:
                    self.assertEqual(look_for(form, value), at_of[number_told(form, goes_to)])
                else:
                    self.assertIs(refusal_of(look_for, form, value), TooGreat)

    def test_what_comes_to_nought_from_below(self):
        for style, side in itertools.product(STYLES, ALL_SIDES):
            for way, value in (("up", (-1, 11)), ("cut", (-99, 1000)), ("near", (-1, 20)), ("near", (-1, 21)),
                               ("even", (-1, 20))):
                self.assertEqual(look_for(NumberForm(2, 1, sign=style, way=way, side=side), value), 0)
            self.assertEqual(look_for(NumberForm(2, 1, sign=style, way="down", side=side), (-1, 1000)), 2)

    def test_what_comes_to_one_figure_more(self):
        self.assertEqual(look_for(NumberForm(2, 1), (199, 20)), 1)
        self.assertEqual(look_for(NumberForm(2, 1, way="cut"), (199, 20)), 0)
        self.assertEqual(look_for(NumberForm(2, 1, way="down"), (-199, 20)), 4)
        self.assertEqual(look_for(NumberForm(2, 1, way="up"), (-199, 20)), 3)

    def test_great_ones(self):
        form = NumberForm(12, 6, 16, "behind", 3, width=40)
        for figures in range(12):
            self.assertEqual(look_for(form, (16 ** figures, 1)), figures)
            self.assertEqual(look_for(form, (1 - 16 ** (figures + 1), 1)), 18 + figures)
        for place in range(1, 7):
            self.assertEqual(look_for(form, (-1, 16 ** place)), 18 - place)
        self.assertEqual(look_for(form, (SIXTY, SIXTY - 1)), 0)
        form = WordForm("".join(SIGNS), 0, 24, 40)
        self.assertEqual([look_for(form, " ~" * length) for length in (0, 5, 12)], [0, 10, 24])

    def test_refused_as_put_refuses(self):
        form = NumberForm(2, 0, width=1, strict=True)
        for value, refusal in (((200, 2), NoValue), ((100, 1), TooGreat), ((-100, 1), TooGreat), ((99, 1), TooWide),
                               ((-1, 1), TooWide), ((199, 2), TooGreat), ((SIXTY, 1), TooGreat), ((19, 2), TooWide),
                               ((9, 1), None), ((-1, 2), None)):
            self.assertIs(refusal_of(look_for, form, value), refusal)
        nothing = NumberForm(2, 1, width=2, strict=True)
        for value, refusal in (((0, 1), TooWide), ((100, 1), TooGreat), (0, NoValue)):
            self.assertIs(refusal_of(look_for, nothing, value), refusal)
        form = WordForm("ab", 1, 3, 2, strict=True)
        for value, refusal in (("abab", NoValue), ("", NoValue), ("c", NoValue), ("aba", TooWide), ("ab", None)):
            self.assertIs(refusal_of(look_for, form, value), refusal)
        form = ChoiceForm(["a", "abc"], 2, strict=True)
        for value, refusal in (("ab", NoValue), ("a ", NoValue), ("", NoValue), ("abc", TooWide), ("a", None)):
            self.assertIs(refusal_of(look_for, form, value), refusal)

    def test_all_values_of_small_forms_that_are_refused(self):
        for form in small_numbers((1, 3)):
            loose = NumberForm(form.figures, form.places, form.base, form.sign, form.size)
            for values in values_by_look(loose):
                for value, core in values:
                    refusal = TooWide if form.strict and len(core) > form.width else None
                    self.assertIs(refusal_of(look_for, form, value), refusal)

    def test_things_of_other_kinds(self):
        strict = {"width": 1, "strict": True}
        for thing in no_fractions():
            self.assertIs(refusal_of(look_for, NumberForm(2, 1), thing), NoValue)
            self.assertIs(refusal_of(look_for, NumberForm(2, 1, **strict), thing), NoValue)
        for thing in no_texts():
            self.assertIs(refusal_of(look_for, WordForm("ab", 0, 3), thing), NoValue)
            self.assertIs(refusal_of(look_for, WordForm("ab", 2, 3, **strict), thing), NoValue)
            self.assertIs(refusal_of(look_for, ChoiceForm(["a", "b"]), thing), NoValue)
            self.assertIs(refusal_of(look_for, ChoiceForm(["ab"], **strict), thing), NoValue)

    def test_forms_stay_as_they_are(self):
        for form, value in ((NumberForm(2, 1, width=5), (-1, 3)), (WordForm("ab", 1, 3), "ab"),
                            (ChoiceForm(["a", "b"], 1, strict=True), "b"), (NumberForm(1, 0), (10, 1))):
            fields = fields_of(form)
            refusal_of(look_for, form, value)
            self.assertEqual(fields_of(form), fields)


class ValueIn(unittest.TestCase):
    """6.4: value_in."""

    def check(self, form):
        """Of each look of a small form every text that fits it: the one value that has this look and is put so."""
        looks = looks_of(form)
        told = [{text: value for value, text in values} for values in values_by_look(form)]
        self.assertEqual(len(looks), len(told))
        for at, look in enumerate(looks):
            texts = ["".join(signs) for signs in itertools.product(*look)]
            self.assertEqual(sorted(told[at]), sorted(texts))
            for text in texts:
                value = value_in(form, at, text)
                self.assertEqual(value, told[at][text], (at, text, vars(form)))
                self.assertEqual((form.put(value), look_for(form, value)), (text, at))

    def test_ordinary(self):
        form = NumberForm(2, 1)
        self.assertEqual(value_in(form, 0, "0.0"), (0, 1))
        self.assertEqual(value_in(form, 1, "12.5"), (25, 2))
        self.assertEqual(value_in(form, 2, "-0.5"), (-1, 2))
        self.assertEqual(value_in(form, 4, "-12.5"), (-25, 2))
        self.assertEqual(value_in(WordForm("ab", 1, 3, 3), 1, "ba "), "ba")
        self.assertEqual(value_in(ChoiceForm(["yes", "no"], 3), 1, "no "), "no")

    def test_each_text_of_small_numbers(self):
        for form in small_numbers(WIDTHS):
            self.check(form)

    def test_odd_marks_points_and_fills(self):
        for form in odd_numbers():
            self.check(form)

    def test_each_text_of_small_words_and_names(self):
        for form in small_words(range(6)):
            self.check(form)

    def test_one_text_of_several_looks(self):
        form = NumberForm(12, 0, width=12, fill="0", side="left")
        for at in range(12):
            self.assertEqual(value_in(form, at, "1" + "0" * 11), (10 ** at, 1))
        form = NumberForm(1, 0, width=3, fill="-", side="inside")
        self.assertEqual((value_in(form, 0, "--5"), value_in(form, 1, "--5")), ((5, 1), (-5, 1)))
        form = ChoiceForm(["a", "a*"], 2, "*")
        self.assertEqual((value_in(form, 0, "a*"), value_in(form, 1, "a*")), ("a", "a*"))
        form = WordForm(" a", 0, 3, 3)
        self.assertEqual([value_in(form, at, "   ") for at in range(4)], ["", " ", "  ", "   "])

    def test_texts_that_do_not_fit(self):
        for form in (NumberForm(2, 1, 3, "brackets", 1, width=6, fill="*", side="inside"), NumberForm(2, 0),
                     NumberForm(3, 1, 2, "plus", 1, ".", "0", width=7, fill="0"), WordForm("-a", 0, 3, 2, " "),
                     ChoiceForm(["a", "a0", "-a", "aaa"], 2, "0"), NumberForm(2, 0, 3, width=2, strict=True)):
            looks = looks_of(form)
            texts = {other for values in values_by_look(form) for value, text in values for other in other_texts(text)}
            for at, text in itertools.product(range(len(looks)), texts | {"", " ", "x" * 400, "\n"}):
                fit = len(text) == len(looks[at]) and all(sign in cell for sign, cell in zip(text, looks[at]))
                self.assertIs(refusal_of(value_in, form, at, text), None if fit else NoText, (at, text))

    def test_texts_of_another_look(self):
        form = NumberForm(2, 1)
        for at, text in ((0, "12.5"), (1, "2.5"), (2, "-1.5"), (3, "-0.5"), (2, "-0.0"), (3, "-10.5"), (0, "-0.5"),
                         (4, "-1.5"), (1, "02.5")):
            self.assertIs(refusal_of(value_in, form, at, text), NoText)
        self.assertIs(refusal_of(value_in, WordForm("ab", 1, 3), 0, "ab"), NoText)
        self.assertIs(refusal_of(value_in, ChoiceForm(["yes", "no"]), 0, "no"), NoText)

    def test_great_ones(self):
        form = NumberForm(12, 6, 16, "behind", 3, width=40, fill="0")
        for k in (0, 1, -1, 16 ** 6, -16 ** 6, 16 ** 18 - 1, 1 - 16 ** 18, 16 ** 12 + 5, -16 ** 3):
            value = number_told(form, k)
            self.assertEqual(value_in(form, look_for(form, value), form.put(value)), value)
        form = WordForm("".join(SIGNS), 0, 24, 40, side="middle")
        self.assertEqual(value_in(form, 3, " " * 18 + " ~ " + " " * 19), " ~ ")
        self.assertEqual(value_in(form, 24, " " * 40), " " * 24)

    def test_forms_stay_as_they_are(self):
        form = ChoiceForm(["a", "b"], 2)
        for text in ("a ", "b ", "c "):
            refusal_of(value_in, form, 0, text)
        self.assertEqual(fields_of(form), fields_of(ChoiceForm(["a", "b"], 2)))


if __name__ == "__main__":
    unittest.main()
