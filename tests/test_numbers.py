import itertools
import unittest
from fractions import Fraction

from padwright.errors import NoText, NoValue, TooGreat, TooWide, TwoValues
from padwright.numbers import NumberForm
from padwright.ratios import is_fraction
from things import (ALL_SIDES, SIGNS, SIXTY, STYLES, WAYS, core_told, k_told, ks_told, no_fractions, number_told,
                    pair_of, reading_of, reading_told, refusal_of, text_told, texts_of)


def values_told(form):
    """For each text that the form puts, all values that it tells and puts so, by rising worth."""
    told = {}
    for k in ks_told(form):
        told.setdefault(text_told(form, k), []).append(number_told(form, k))
    told.pop(None, None)
    return told


class Cores(unittest.TestCase):
    """4.2, 4.4: core and put of numbers."""

    def check(self, form, value):
        k = k_told(value, form.base, form.places, form.way)
        self.assertEqual(form.core(value), core_told(form, k))
        self.assertEqual(form.put(value), text_told(form, k))

    def test_each_style(self):
        for style, not_below, below in (("minus", "12.5", "-12.5"), ("plus", "+12.5", "-12.5"),
                                        ("blank", " 12.5", "-12.5"), ("brackets", "12.5", "(12.5)"),
                                        ("behind", "12.5", "12.5-")):
            form = NumberForm(3, 1, sign=style)
            self.assertEqual((form.core((25, 2)), form.core((-25, 2))), (not_below, below))
            self.assertEqual((form.put((25, 2)), form.put((-25, 2))), (not_below, below))

    def test_each_way(self):
        told = {(5, 2): (2, 3, 2, 3, 2), (-5, 2): (-3, -2, -2, -2, -2), (7, 2): (3, 4, 3, 4, 4),
                (-7, 2): (-4, -3, -3, -3, -4), (9, 4): (2, 3, 2, 2, 2), (-9, 4): (-3, -2, -2, -2, -2),
                (11, 4): (2, 3, 2, 3, 3), (2, 1): (2, 2, 2, 2, 2), (-2, 1): (-2, -2, -2, -2, -2)}
        for value, numbers in told.items():
            self.assertEqual([NumberForm(2, 0, way=way).put(value) for way in WAYS], [str(k) for k in numbers])

    def test_each_side(self):
        told = {"left": ("7***", "-7**", "(7)*"), "right": ("***7", "**-7", "*(7)"), "middle": ("*7**", "*-7*", "(7)*"),
                "inside": ("***7", "-**7", "(*7)")}
        for side, texts in told.items():
            plain = NumberForm(2, 0, width=4, fill="*", side=side)
            bracketed = NumberForm(2, 0, sign="brackets", width=4, fill="*", side=side)
            self.assertEqual((plain.put((7, 1)), plain.put((-7, 1)), bracketed.put((-7, 1))), texts)

    def test_inside_of_each_style(self):
        told = {"minus": ("**7.5", "-*7.5"), "plus": ("+*7.5", "-*7.5"), "blank": (" *7.5", "-*7.5"),
                "brackets": ("**7.5", "(7.5)"), "behind": ("**7.5", "*7.5-")}
        for style, texts in told.items():
            form = NumberForm(2, 1, sign=style, width=5, fill="*", side="inside")
            self.assertEqual((form.put((15, 2)), form.put((-15, 2))), texts)

    def test_each_base_and_number_of_places(self):
        for base in range(2, 17):
            for places in range(7):
                for way in WAYS:
                    form = NumberForm(6, places, base, "plus", 2, "_", ".", way, 12, "*", "middle")
                    for top in (0, 1, -1, 7, -7, 63, -63, 100, -100):
                        for bottom in (1, 2, 3, 7, base, base ** 3, 2 * base ** 6):
                            value = pair_of(Fraction(top, bottom))
                            if abs(top) < base ** 6:
                                self.check(form, value)

    def test_groups(self):
        form = NumberForm(12, 2, size=3)
        self.assertEqual(form.put((123456789, 1)), "123,456,789.00")
        self.assertEqual(form.put((-123456, 1)), "-123,456.00")
        self.assertEqual(form.put((999, 1)), "999.00")
        self.assertEqual(NumberForm(12, 2, size=1, mark="'").put((1234, 1)), "1'2'3'4.00")
        self.assertEqual(NumberForm(12, 0, size=9).put((1234567890, 1)), "1,234567890")

    def test_marks_and_points_that_are_figures_ends_or_the_fill(self):
        values = [(0, 1), (1, 2), (-1, 2), (12, 1), (-1234, 1), (4321, 4)]
        for style in STYLES:
            for side in ALL_SIDES:
                for point, mark in itertools.product("05-+( )*.", repeat=2):
                    form = NumberForm(5, 2, 10, style, 1, mark, point, "even", 11, "*", side)
                    for value in values:
                        self.check(form, value)

    def test_points_marks_and_fills_of_whatever_sign(self):
        for sign in SIGNS:
            form = NumberForm(5, 1, size=2, mark=sign, point=sign, width=10, fill=sign, side="inside")
            self.assertEqual(form.put((-123, 1)), "-" + sign * 3 + "1" + sign + "23" + sign + "0")

    def test_no_sign_of_one_below_on_what_comes_to_nought(self):
        for style, nought in (("minus", "0.0"), ("plus", "+0.0"), ("blank", " 0.0"), ("brackets", "0.0"),
                              ("behind", "0.0")):
            for way, value in (("up", (-1, 11)), ("cut", (-99, 1000)), ("near", (-1, 20)), ("near", (-1, 21)),
                               ("even", (-1, 20)), ("down", (0, 1))):
                form = NumberForm(1, 1, sign=style, way=way)
                self.assertEqual((form.core(value), form.put(value)), (nought, nought))

    def test_a_sign_on_what_is_next_to_nought(self):
        form = NumberForm(1, 1, sign="brackets", way="down")
        self.assertEqual(form.put((-1, 1000)), "(0.1)")
        self.assertEqual(NumberForm(1, 1, way="near").put((-51, 1000)), "-0.1")

    def test_as_long_as_the_width_or_longer(self):
        for side in ALL_SIDES:
            for width in range(5):
                self.assertEqual(NumberForm(2, 1, width=width, fill="*", side=side).put((-19, 2)), "-9.5")
            self.assertEqual(len(NumberForm(2, 1, width=40, fill="*", side=side).put((-19, 2))), 40)

    def test_great_tops_and_bottoms(self):
        form = NumberForm(12, 6, base=16)
        self.assertEqual(form.put((SIXTY, SIXTY - 1)), "1.000000")
        self.assertEqual(form.put((-1, SIXTY)), "0.000000")
        self.assertEqual(NumberForm(1, 6, way="down").put((-1, SIXTY)), "-0.000001")

    def test_the_defaults(self):
        form = NumberForm(6, 1)
        self.assertEqual(form.put((-123456, 1)), "-123456.0")
        self.assertEqual(form.put((1, 20)), "0.1")
        self.assertEqual(NumberForm(6, 0, size=3, width=8).put((1234, 1)), "   1,234")


class Refusals(unittest.TestCase):
    """4.4: NoValue, then TooGreat, then TooWide."""

    def refused(self, form, value, core, put):
        self.assertIs(refusal_of(form.core, value), core)
        self.assertIs(refusal_of(form.put, value), put)

    def test_no_fractions(self):
        forms = [NumberForm(3, 1), NumberForm(1, 0, width=1, strict=True), NumberForm(1, 6, strict=True)]
        for thing in no_fractions():
            for form in forms:
                self.refused(form, thing, NoValue, NoValue)

    def test_too_great(self):
        for base in (2, 10, 16):
            for figures in (1, 2, 12):
                for places in (0, 1, 6):
                    form = NumberForm(figures, places, base)
                    end = base ** figures
                    for value in ((end, 1), (-end, 1), (end * base ** 3, 1), (SIXTY, 1), (-SIXTY, 1)):
                        self.refused(form, value, TooGreat, TooGreat)
                    for value in ((end - 1, 1), (1 - end, 1)):
                        self.refused(form, value, None, None)

    def test_it_hangs_on_the_grids_number(self):
        half = (19, 2)
        for way, sign, great in (("down", 1, False), ("up", 1, True), ("cut", 1, False), ("near", 1, True),
                                 ("even", 1, True), ("down", -1, True), ("up", -1, False), ("cut", -1, False),
                                 ("near", -1, False), ("even", -1, True)):
            asked = TooGreat if great else None
            self.refused(NumberForm(1, 0, way=way), (sign * half[0], half[1]), asked, asked)
        self.refused(NumberForm(1, 2), (9949, 1000), None, None)
        self.refused(NumberForm(1, 2), (4997, 500), None, None)
        self.refused(NumberForm(1, 2), (1999, 200), TooGreat, TooGreat)

    def test_marks_point_and_sign_are_no_figures_ahead(self):
        self.assertEqual(NumberForm(3, 6, sign="brackets", size=1).put((-999, 1)), "(9,9,9.000000)")

    def test_too_wide(self):
        form = NumberForm(3, 1, width=4, strict=True)
        self.assertEqual(form.put((999, 10)), "99.9")
        self.assertEqual(form.put((-99, 10)), "-9.9")
        self.assertEqual(form.put((1, 10)), " 0.1")
        for value, core in (((100, 1), "100.0"), ((-10, 1), "-10.0"), ((999, 1), "999.0"), ((-999, 1), "-999.0")):
            self.refused(form, value, None, TooWide)
            self.assertEqual(form.core(value), core)

    def test_the_core_of_a_strict_form_may_be_longer_than_the_width(self):
        for side in ALL_SIDES:
            for width in range(7):
                form = NumberForm(4, 1, sign="brackets", width=width, side=side, strict=True)
                self.assertEqual(form.core((-123, 1)), "(123.0)")
                self.refused(form, (-123, 1), None, TooWide)
            self.assertEqual(NumberForm(4, 1, sign="brackets", width=7, side=side, strict=True).put((-123, 1)),
                             "(123.0)")

    def test_their_order(self):
        form = NumberForm(2, 0, width=1, strict=True)
        self.refused(form, (200, 2), NoValue, NoValue)
        self.refused(form, (100, 1), TooGreat, TooGreat)
        self.refused(form, (-100, 1), TooGreat, TooGreat)
        self.refused(form, (99, 1), None, TooWide)
        self.refused(form, (-1, 1), None, TooWide)
        self.refused(form, (9, 1), None, None)

    def test_what_was_refused_changes_nothing(self):
        form = NumberForm(2, 0, width=1, strict=True)
        fields = dict(vars(form))
        for value in (None, (100, 1), (99, 1)):
            refusal_of(form.put, value)
        refusal_of(form.value_of, "x")
        self.assertEqual(vars(form), fields)


class Reading(unittest.TestCase):
    """4.5: values_for and value_of of numbers."""

    def check(self, form, others=()):
        """All texts that the form puts, these ones with a sign more or less, and others."""
        told = values_told(form)
        texts = set(told) | set(others)
        for text in list(told)[::7]:
            texts |= {text[1:], text[:-1], text + form.fill, form.fill + text, text + "0", "-" + text, "0" + text,
                      "(" + text + ")", text + "-", text[:1] + "0" + text[1:]}
        for text in texts:
            asked = told.get(text, [])
            self.assertEqual(form.values_for(text), asked, (text, vars(form)))
            self.assertEqual(reading_of(form, text), reading_told(asked), (text, vars(form)))

    def test_the_documents_examples(self):
        form = NumberForm(2, 0, width=2, fill="0", side="left")
        self.assertEqual(form.put((5, 1)), form.put((50, 1)))
        self.assertEqual(form.values_for("50"), [(5, 1), (50, 1)])
        form = NumberForm(1, 0, width=3, fill="-", side="inside")
        self.assertEqual(form.values_for("--5"), [(-5, 1), (5, 1)])
        self.assertEqual(reading_of(form, "--5"), (TwoValues, [(-5, 1), (5, 1)]))

    def test_ordinary(self):
        form = NumberForm(6, 2, size=3, width=12, fill="*")
        self.assertEqual(form.values_for("*******-2.50"), [(-5, 2)])
        self.assertEqual(form.value_of("*******-2.50"), (-5, 2))
        self.assertEqual(form.value_of("**123,456.78"), (6172839, 50))
        self.assertEqual(form.value_of("********0.00"), (0, 1))
        for text in ("", "-2.50", "*******-2.5", "********2.5*", "*****-123.456", "*******1234.50", "*******-0.00",
                     "       -2.50", "*******+2.50", "******02.50*", "*******02.50", "1,123,456.78", "************"):
            self.assertEqual(form.values_for(text), [])
            self.assertIs(refusal_of(form.value_of, text), NoText)

    def test_nought_below_nought_is_never_read(self):
        for style, text in (("minus", "-0.0"), ("plus", "-0.0"), ("blank", "-0.0"), ("brackets", "(0.0)"),
                            ("behind", "0.0-")):
            for side in ALL_SIDES:
                form = NumberForm(2, 1, sign=style, side=side)
                self.assertEqual(form.values_for(text), [])
                self.assertEqual(form.values_for(text.replace("0.0", "0.1")), [(-1, 10)])

    def test_just_those_of_the_forms_figures(self):
        for figures in (1, 2, 12):
            form = NumberForm(figures, 1)
            self.assertEqual(form.values_for("9" * figures + ".9"), [(10 ** (figures + 1) - 1, 10)])
            self.assertEqual(form.values_for("1" + "0" * figures + ".0"), [])
            self.assertEqual(form.values_for("-1" + "0" * figures + ".0"), [])

    def test_only_numbers_of_the_grid_are_told(self):
        form = NumberForm(2, 1, way="up")
        self.assertEqual(form.put((1, 3)), "0.4")
        self.assertEqual(form.values_for("0.4"), [(2, 5)])

    def test_strict_forms(self):
        for side in ALL_SIDES:
            form = NumberForm(2, 0, width=1, fill="*", side=side, strict=True)
            self.assertEqual(form.values_for("9"), [(9, 1)])
            self.assertEqual(form.values_for("10"), [])
            self.assertEqual(form.values_for("-1"), [])
            loose = NumberForm(2, 0, width=1, fill="*", side=side)
            self.assertEqual(loose.values_for("10"), [(10, 1)])
            self.assertEqual(loose.values_for("-1"), [(-1, 1)])

    def test_a_strict_form_that_puts_nothing(self):
        for side in ALL_SIDES:
            form = NumberForm(2, 1, width=2, side=side, strict=True)
            for text in ("", "0", "00", "  ", "0.0", ".0"):
                self.assertEqual(form.values_for(text), [])

    def test_wrong_texts(self):
        forms = [NumberForm(2, 1, sign=style, side=side, width=width) for style in STYLES for side in ALL_SIDES
                 for width in (0, 4)]
        for text in ("", " ", "x", "1", "1.", ".1", "1.1.1", "--1.1", "1.1--", "((1.1))", "+-1.1", "A.0", "a.0",
                     "x" * 400, "0" * 400, " " * 400, "1,1.1"):
            for form in forms:
                self.assertEqual(form.values_for(text), [])

    def test_all_that_a_form_puts_in_each_style_and_at_each_side(self):
        for style in STYLES:
            for side in ALL_SIDES:
                for fill in "0 -(":
                    for strict in (False, True):
                        self.check(NumberForm(1, 1, 3, style, 0, ",", ".", "near", 4, fill, side, strict))
                        self.check(NumberForm(2, 0, 4, style, 1, ",", ".", "near", 4, fill, side, strict))

    def test_marks_points_and_fills_that_are_figures_or_ends(self):
        for style in STYLES:
            for side in ALL_SIDES:
                for sign in "01-+) ":
                    self.check(NumberForm(3, 1, 2, style, 1, sign, sign, "near", 7, sign, side))
                    self.check(NumberForm(2, 1, 3, style, 1, sign, "0", "near", 5, "1", side))
                    self.check(NumberForm(3, 0, 2, style, 2, "1", ".", "near", 6, sign, side))

    def test_all_short_texts(self):
        short = texts_of("01-.", 5)
        for side in ALL_SIDES:
            for fill, mark in (("0", "-"), ("-", "1"), ("1", "0"), (".", ",")):
                for style in ("minus", "behind", "plus"):
                    self.check(NumberForm(2, 1, 2, style, 1, mark, ".", "near", 5, fill, side), short)
                    self.check(NumberForm(2, 0, 2, style, 0, mark, ".", "near", 3, fill, side), short)

    def test_all_bases_and_places(self):
        for base in range(2, 17):
            for places in range(7):
                form = NumberForm(4, places, base, "behind", 2, "_", ".", "near", 14, "*", "middle")
                for k in (0, 1, -1, base, -base, base ** (4 + places) - 1, 1 - base ** (4 + places)):
                    value = pair_of(Fraction(k, base ** places))
                    self.assertEqual(form.values_for(form.put(value)), [value])
                    self.assertEqual(form.value_of(form.put(value)), value)

    def test_many_values_of_one_text(self):
        form = NumberForm(12, 0, width=12, fill="0", side="left")
        self.assertEqual(form.values_for("1" + "0" * 11), [(10 ** times, 1) for times in range(12)])
        form = NumberForm(3, 0, sign="behind", width=4, fill="0", side="left")
        self.assertEqual(form.values_for("1000"), [(1, 1), (10, 1), (100, 1)])
        form = NumberForm(3, 0, width=4, fill="-", side="right")
        self.assertEqual(form.values_for("--12"), [(-12, 1), (12, 1)])

    def test_lists_that_were_told_are_the_askers_own(self):
        form = NumberForm(1, 0, width=3, fill="-", side="inside")
        first = form.values_for("--5")
        first.clear()
        self.assertEqual(form.values_for("--5"), [(-5, 1), (5, 1)])
        for turn in range(2):
            told = reading_of(form, "--5")[1]
            self.assertEqual(told, [(-5, 1), (5, 1)])
            told.clear()

    def test_values_are_fractions(self):
        for text in ("0.50", "-12.25", "0.00"):
            self.assertTrue(is_fraction(NumberForm(2, 2).value_of(text)))


if __name__ == "__main__":
    unittest.main()
