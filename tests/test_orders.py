import itertools
import unittest

from padwright.numbers import NumberForm
from padwright.orders import in_order
from padwright.ratios import is_below, is_fraction
from things import ALL_SIDES, SIGNS, STYLES, WAYS, fields_of, ks_told, number_told, odd_numbers, text_told


class Orders(unittest.TestCase):
    """6.5: in_order."""

    def stands_in_order(self, form):
        """Whether of any two numbers from nought on that the form puts the text of the lesser one stands ahead."""
        texts = [text_told(form, k) for k in ks_told(form) if k >= 0]
        texts = [text for text in texts if text is not None]
        return all(one < other for one, other in itertools.combinations(texts, 2))

    def check_pair(self, form, told):
        """Two numbers from nought on that the form tells and puts, one less than other, not in order."""
        self.assertIs(told.__class__, tuple)
        self.assertEqual(len(told), 2)
        for value in told:
            self.assertTrue(is_fraction(value))
            self.assertGreaterEqual(value[0], 0)
            self.assertEqual(form.values_for(form.put(value)).count(value), 1)
        self.assertTrue(is_below(*told))
        self.assertGreaterEqual(form.put(told[0]), form.put(told[1]))

    def check(self, form):
        """A small form against all pairs of its numbers."""
        told = in_order(form)
        if told is not None:
            self.check_pair(form, told)
        self.assertIs(told is None, self.stands_in_order(form), vars(form))
        self.assertEqual(in_order(NumberForm(**fields_of(form))), told)

    def test_ordinary(self):
        self.assertIsNone(in_order(NumberForm(3, 1, width=5)))
        self.assertIsNone(in_order(NumberForm(3, 1, width=5, fill="0")))
        self.assertIsNone(in_order(NumberForm(3, 0, width=3, fill="*")))
        for form in (NumberForm(3, 1), NumberForm(3, 1, width=4), NumberForm(3, 1, width=5, side="left"),
                     NumberForm(3, 0, width=3, fill="a"), NumberForm(3, 0, width=3, fill="9"),
                     NumberForm(6, 2, size=3, width=12, fill="~")):
            self.check_pair(form, in_order(form))

    def test_none_or_one(self):
        for places in range(7):
            self.assertIsNone(in_order(NumberForm(12, places, width=places, strict=True)))
        # A form of numbers that puts any puts two at least: so there is none with just one.
        self.assertIsNone(in_order(NumberForm(1, 0, 2, width=1, strict=True)))
        self.assertIsNone(in_order(NumberForm(12, 6, 16, "plus", width=8, strict=True)))

    def test_one_figure_ahead_is_always_in_order(self):
        for base, places, side in itertools.product((2, 10, 16), (0, 1, 6), ALL_SIDES):
            for style, width, fill in itertools.product(STYLES, (0, 9, 20), " 0a~"):
                self.assertIsNone(in_order(NumberForm(1, places, base, style, width=width, fill=fill, side=side)))

    def test_each_side_width_and_fill(self):
        sizes = ((2, 0, 2, 0), (3, 0, 2, 1), (4, 0, 2, 2), (2, 1, 3, 1), (2, 1, 4, 0), (1, 3, 2, 0), (3, 0, 4, 1))
        for (figures, places, base, size), width, side in itertools.product(sizes, (0, 1, 2, 3, 4, 5, 7), ALL_SIDES):
            for fill, strict in itertools.product(" *01:a~", (False, True)):
                self.check(NumberForm(figures, places, base, size=size, width=width, fill=fill, side=side,
                                      strict=strict))

    def test_each_style(self):
        for style, side, width in itertools.product(STYLES, ALL_SIDES, range(7)):
            for fill, strict in itertools.product(" +-~0", (False, True)):
                self.check(NumberForm(3, 0, 3, style, 0, ",", ".", "near", width, fill, side, strict))

    def test_marks_and_points(self):
        for mark, point, fill in itertools.product(" ,0129:~", " ./01~", " 01~"):
            for side, width in (("right", 7), ("left", 7), ("middle", 6), ("right", 0)):
                self.check(NumberForm(3, 1, 2, "minus", 1, mark, point, "near", width, fill, side))
                self.check(NumberForm(2, 1, 3, "minus", 1, mark, point, "near", width, fill, side))

    def test_odd_marks_points_and_fills(self):
        for form in odd_numbers():
            self.check(form)

    def test_each_sign_as_the_fill(self):
        for sign in SIGNS:
            form = NumberForm(2, 0, width=2, fill=sign)
            # Compared are the fill and a 1, and where they are alike a figure and a 0.
            self.assertIs(in_order(form) is None, sign < "1")
            self.check(form)

    def test_figures_of_letters(self):
        for base, side, width, fill in itertools.product((11, 16), ALL_SIDES, (0, 2, 3), " 0:~"):
            self.check(NumberForm(2, 0, base, width=width, fill=fill, side=side))

    def test_numbers_below_nought_count_nothing(self):
        for form in (NumberForm(2, 0, width=3), NumberForm(2, 0, width=2), NumberForm(2, 1, sign="plus", width=5),
                     NumberForm(2, 1, sign="plus", width=5, side="inside"), NumberForm(2, 0, sign="behind", width=2),
                     NumberForm(2, 1, sign="blank", width=5, fill="0", side="inside")):
            # Those texts stand nowhere near the order of the numbers.
            self.assertLess(form.put((-1, 1)), form.put((-2, 1)))
            self.assertIsNone(in_order(form))

    def test_strict_forms_leave_out_what_they_refuse(self):
        self.assertIsNone(in_order(NumberForm(2, 0, width=1, strict=True)))
        self.assertIsNotNone(in_order(NumberForm(2, 0, width=1)))
        self.assertIsNone(in_order(NumberForm(3, 0, width=2, strict=True)))
        self.assertIsNotNone(in_order(NumberForm(3, 0, width=2)))
        self.assertIsNotNone(in_order(NumberForm(3, 0, width=2, side="left", strict=True)))

    def test_the_first_ones_stand_in_order_but_not_all(self):
        # In base 2 the text 1 is gone on from by 10; but 11 stands behind 100.
        self.assertIsNone(in_order(NumberForm(2, 0, 2)))
        self.check_pair(NumberForm(3, 0, 2), in_order(NumberForm(3, 0, 2)))
        self.check_pair(NumberForm(12, 6, width=18), in_order(NumberForm(12, 6, width=18)))
        self.check_pair(NumberForm(12, 0, 10, size=3, width=14), in_order(NumberForm(12, 0, 10, size=3, width=14)))

    def test_great_ones(self):
        for base in range(2, 17):
            self.assertIsNone(in_order(NumberForm(12, 6, base, "blank", width=20, side="right")))
            self.assertIsNone(in_order(NumberForm(12, 6, base, "plus", width=40, fill="0", side="inside")))
            for form in (NumberForm(12, 6, base, width=40, fill="~"), NumberForm(12, 6, base, width=40, side="middle"),
                         NumberForm(12, 6, base, size=9)):
                self.check_pair(form, in_order(form))

    def test_the_way_tells_nothing(self):
        for way in WAYS:
            self.assertIsNone(in_order(NumberForm(2, 1, way=way, width=4)))
            self.check(NumberForm(2, 1, 3, way=way))

    def test_forms_with_alike_fields_and_the_form_stays(self):
        form = NumberForm(4, 2, size=1, width=3)
        fields = fields_of(form)
        told = in_order(form)
        self.assertEqual(fields_of(form), fields)
        for turn in range(3):
            self.assertEqual(in_order(form), told)
            self.assertEqual(in_order(form.widened(3)), told)

    def test_numbers_of_the_grid(self):
        form = NumberForm(2, 2)
        values = [number_told(form, k) for k in ks_told(form) if k >= 0]
        for value in in_order(form):
            self.assertIn(value, values)


if __name__ == "__main__":
    unittest.main()
