import unittest

from padwright.bodies import body_of, number_in
from padwright.ends import signed, unsigned
from things import SIGNS, STYLES

PUZZLING = "0123456789abcdef+-() .,~"


def core_of(k, style, base, places, point, size, mark):
    return signed(body_of(abs(k), base, places, point, size, mark), style, k < 0)


def number_of_core(core, style, base, places, point, size, mark):
    below, body = unsigned(core, style)
    number = number_in(body, base, places, point, size, mark)
    return -number if below else number


class Cores(unittest.TestCase):
    """2.4: one core for each number, and unlike cores for unlike numbers."""

    def check(self, ks, style, base, places, point, size, mark):
        cores = {}
        for k in ks:
            core = core_of(k, style, base, places, point, size, mark)
            self.assertNotIn(core, cores, (k, cores.get(core), style, base, places, point, size, mark))
            cores[core] = k
            self.assertEqual(number_of_core(core, style, base, places, point, size, mark), k)

    def test_ordinary(self):
        handed = (10, 2, ".", 3, ",")
        self.assertEqual([core_of(-1234567, style, *handed) for style in STYLES],
                         ["-12,345.67", "-12,345.67", "-12,345.67", "(12,345.67)", "12,345.67-"])
        self.assertEqual([core_of(5, style, *handed) for style in STYLES], ["0.05", "+0.05", " 0.05", "0.05", "0.05"])

    def test_nought_has_no_sign_of_one_below(self):
        self.assertEqual([core_of(0, style, 10, 1, ".", 3, ",") for style in STYLES],
                         ["0.0", "+0.0", " 0.0", "0.0", "0.0"])

    def test_points_and_marks_of_whatever_sign(self):
        for style in STYLES:
            for point in SIGNS:
                for mark in {point, "0", "1", "-", ",", " "}:
                    for places, size in ((1, 1), (2, 3)):
                        self.check(range(-12, 13), style, 10, places, point, size, mark)

    def test_figures_and_the_styles_own_as_points_and_marks(self):
        ks = sorted({k * step for step in (1, 37, 1011) for k in range(-30, 31)})
        for style in STYLES:
            for point in PUZZLING:
                for mark in PUZZLING:
                    self.check(ks[::3], style, 10, 1, point, 2, mark)

    def test_all_bases_and_places(self):
        for style in STYLES:
            for base in range(2, 17):
                for places in range(7):
                    great = base ** (40 + places) - 1
                    ks = list(range(-9, 10)) + [great, -great, great - 1, 1 - great, base ** 9, -base ** 9]
                    for point, size, mark in ((".", 0, ","), ("0", 1, "1"), ("-", 3, "(")):
                        self.check(sorted(set(ks)), style, base, places, point, size, mark)

    def test_many_numbers_in_a_row(self):
        for style in STYLES:
            for point, size, mark in (("1", 1, "1"), ("0", 1, "0"), ("-", 1, "-"), ("+", 2, "0"), (")", 1, "("),
                                      ("0", 0, " ")):
                for places in (0, 1, 2):
                    self.check(range(-300, 301), style, 2, places, point, size, mark)


if __name__ == "__main__":
    unittest.main()
