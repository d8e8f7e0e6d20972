import unittest

from padwright.bodies import body_of, number_in
from padwright.errors import NoBody
from padwright.wholes import is_whole
from things import ALL_FIGURES, SIGNS, body_told, refusal_of, texts_of

BASES = range(2, 17)
PLACES = range(7)


def numbers(base, places):
    """Small numbers, and those round the powers of a base up to the greatest with a whole part of 40 figures."""
    told = list(range(20))
    for times in (1, 2, 3, 4, 6, 7, 9, 10, 12, 20, 39 + places):
        told.extend((base ** times - 1, base ** times, base ** times + 1))
    return told + [base ** (40 + places) - 1]


class Writing(unittest.TestCase):
    """2.2: body_of."""

    def test_the_documents_examples(self):
        self.assertEqual(body_of(1234567, 10, 2, ".", 3, ","), "12,345.67")
        self.assertEqual(body_of(5, 10, 2, ".", 3, ","), "0.05")

    def test_ordinary(self):
        self.assertEqual(body_of(0, 10, 0, ".", 0, ","), "0")
        self.assertEqual(body_of(0, 10, 2, ".", 3, ","), "0.00")
        self.assertEqual(body_of(100, 10, 2, ".", 3, ","), "1.00")
        self.assertEqual(body_of(99, 10, 2, ".", 3, ","), "0.99")
        self.assertEqual(body_of(1234567, 10, 0, ".", 3, ","), "1,234,567")
        self.assertEqual(body_of(1234567, 10, 6, ".", 3, ","), "1.234567")
        self.assertEqual(body_of(1234567, 10, 2, ",", 3, "."), "12.345,67")
        self.assertEqual(body_of(1234567, 10, 2, ".", 0, ","), "12345.67")
        self.assertEqual(body_of(4095, 16, 1, ".", 1, "_"), "f_f.f")
        self.assertEqual(body_of(5, 2, 2, ".", 0, ","), "1.01")

    def test_the_rest_is_not_grouped(self):
        self.assertEqual(body_of(1234567, 10, 6, ".", 1, ","), "1.234567")
        self.assertEqual(body_of(12345678, 10, 6, ".", 1, ","), "1,2.345678")

    def test_all_bases_places_and_sizes(self):
        for base in BASES:
            for places in PLACES:
                for size in range(10):
                    for number in numbers(base, places):
                        handed = (number, base, places, ".", size, ",")
                        self.assertEqual(body_of(*handed), body_told(*handed))

    def test_points_and_marks_of_whatever_sign(self):
        for point in SIGNS:
            for mark in SIGNS:
                self.assertEqual(body_of(1234567, 10, 2, point, 3, mark), f"12{mark}345{point}67")
            self.assertEqual(body_of(7, 10, 3, point, 3, point), f"0{point}007")
            self.assertEqual(body_of(1234, 10, 0, point, 3, "'"), "1'234")

    def test_somewhat_beyond_the_bound(self):
        self.assertEqual(body_of(10 ** 42, 10, 2, ".", 0, ","), "1" + "0" * 40 + ".00")


class Reading(unittest.TestCase):
    """2.2: number_in."""

    def refused(self, *handed):
        self.assertIs(refusal_of(number_in, *handed), NoBody, handed)

    def test_ordinary(self):
        self.assertEqual(number_in("12,345.67", 10, 2, ".", 3, ","), 1234567)
        self.assertEqual(number_in("0.05", 10, 2, ".", 3, ","), 5)
        self.assertEqual(number_in("0", 10, 0, ".", 3, ","), 0)
        self.assertEqual(number_in("0.00", 10, 2, ".", 3, ","), 0)
        self.assertEqual(number_in("ff.f", 16, 1, ".", 0, ","), 4095)

    def test_what_was_written_is_read(self):
        for base in BASES:
            for places in PLACES:
                for size in range(10):
                    for number in numbers(base, places):
                        body = body_told(number, base, places, ".", size, ",")
                        got = number_in(body, base, places, ".", size, ",")
                        self.assertEqual(got, number)
                        self.assertIs(is_whole(got), True)

    def test_points_and_marks_of_whatever_sign(self):
        for point in SIGNS:
            for mark in SIGNS:
                self.assertEqual(number_in(f"12{mark}345{point}67", 10, 2, point, 3, mark), 1234567)
            self.assertEqual(number_in(f"0{point}007", 10, 3, point, 3, point), 7)

    def test_all_short_texts(self):
        short = texts_of("01.,", 6)
        for point, mark in ((".", ","), (",", ","), ("0", "1"), ("1", "1"), ("0", "0")):
            for places in (0, 1, 2, 3):
                for size in (0, 1, 2, 3):
                    rest = (2, places, point, size, mark)
                    # A body has each figure of its number: one of six signs is that of a number below 2 ** 6.
                    told = {body_told(number, *rest): number for number in range(2 ** 6)}
                    for text in short:
                        if text in told:
                            self.assertEqual(number_in(text, *rest), told[text])
                        else:
                            self.refused(text, *rest)

    def test_no_signs(self):
        for places in PLACES:
            for size in range(10):
                self.refused("", 10, places, ".", size, ",")

    def test_noughts_ahead(self):
        for base in BASES:
            self.refused("00", base, 0, ".", 0, ",")
            self.refused("01", base, 0, ".", 0, ",")
            self.refused("0001", base, 0, ".", 0, ",")
            self.refused("0,001", base, 0, ".", 3, ",")
            self.refused("00.1", base, 1, ".", 0, ",")
            self.refused("01.1", base, 1, ".", 0, ",")
            self.assertEqual(number_in("0.01", base, 2, ".", 0, ","), 1)
            self.assertEqual(number_in("0.00", base, 2, ".", 0, ","), 0)
            self.refused("0" * 40, base, 0, ".", 0, ",")

    def test_a_whole_part_that_lacks(self):
        for places in range(1, 7):
            rest = "1" * places
            for text in ("." + rest, rest, ".", "1." + rest[1:], "1.1" + rest, "1" + rest, ",." + rest):
                self.refused(text, 10, places, ".", 3, ",")

    def test_another_point(self):
        for point in SIGNS:
            for sign in SIGNS:
                if sign != point:
                    self.refused(f"1{sign}50", 10, 2, point, 3, ",")

    def test_a_point_where_there_are_no_places(self):
        for text in ("1.", "1.0", "1.5", ".1", "."):
            self.refused(text, 10, 0, ".", 0, ",")

    def test_groups_amiss(self):
        for text in ("1234.50", "12,34.50", "1,2345.50", ",123.50", ",.50", "1,234,.50", "1.234.50", "1,23.50",
                     "1,,234.50"):
            self.refused(text, 10, 2, ".", 3, ",")
        self.refused("1,234.50", 10, 2, ".", 0, ",")
        self.refused("1.2,34", 10, 4, ".", 2, ",")

    def test_signs_that_are_no_figures(self):
        for sign in SIGNS + ["%", "\n"]:
            if sign not in "0123456789":
                for text in (f"1{sign}2.34", f"{sign}12.34", f"12{sign}.34", f"12.{sign}4", f"12.3{sign}", sign):
                    self.refused(text, 10, 2, ".", 0, ",")

    def test_figures_beyond_the_base(self):
        for base in BASES:
            for sign in ALL_FIGURES[base:]:
                for text in (sign + ".1", "1" + sign + ".1", "1." + sign):
                    self.refused(text, base, 1, ".", 0, ",")
                self.refused(sign, base, 0, ".", 0, ",")

    def test_texts_that_python_would_read(self):
        for text in ("0x1", "1_0", "+1", "-1", " 1", "1 ", "1e1", "A"):
            self.refused(text, 10, 0, ".", 0, ",")

    def test_40_figures_and_41(self):
        for base in BASES:
            last = ALL_FIGURES[base - 1]
            for places in PLACES:
                rest = "." + last * places if places else ""
                self.assertEqual(number_in(last * 40 + rest, base, places, ".", 0, ","), base ** (40 + places) - 1)
                self.refused(last * 41 + rest, base, places, ".", 0, ",")
                for size in range(10):
                    for number in (base ** (40 + places), base ** (41 + places) - 1):
                        body = body_told(number, base, places, ".", size, ",")
                        self.refused(body, base, places, ".", size, ",")


if __name__ == "__main__":
    unittest.main()
