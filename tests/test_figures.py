import unittest

from padwright.errors import NoFigures
from padwright.figures import figures_of, number_of
from padwright.wholes import is_whole
from things import ALL_FIGURES, SIGNS, no_texts, refusal_of

BASES = range(2, 17)


def numbers(base):
    """Small numbers, and those round the powers of a base, below 16 ** 60."""
    told = list(range(300)) + [16 ** 60 - 1, 16 ** 60 - 2, 16 ** 59, 10 ** 60 - 1, 10 ** 60]
    for times in range(1, 241):
        told.extend((base ** times - 1, base ** times, base ** times + 1))
    return [number for number in told if number < 16 ** 60]


class Writing(unittest.TestCase):
    """1.5: figures_of."""

    def test_the_documents_example(self):
        self.assertEqual(figures_of(255, 16), "ff")

    def test_ordinary(self):
        self.assertEqual(figures_of(255, 10), "255")
        self.assertEqual(figures_of(255, 2), "11111111")
        self.assertEqual(figures_of(10, 10), "10")
        self.assertEqual(figures_of(10, 16), "a")
        self.assertEqual(figures_of(1000, 10), "1000")
        self.assertEqual(figures_of(35, 12), "2b")

    def test_nought(self):
        for base in BASES:
            self.assertEqual(figures_of(0, base), "0")

    def test_each_figure_by_itself(self):
        for base in BASES:
            self.assertEqual([figures_of(worth, base) for worth in range(base)], list(ALL_FIGURES[:base]))
            self.assertEqual(figures_of(base, base), "10")

    def test_as_python_writes_them(self):
        for base, kind in ((2, "b"), (8, "o"), (10, "d"), (16, "x")):
            for number in numbers(base):
                self.assertEqual(figures_of(number, base), format(number, kind))

    def test_all_bases(self):
        for base in BASES:
            for number in numbers(base):
                text = figures_of(number, base)
                self.assertEqual(int(text, base), number)
                self.assertTrue(text == "0" or text[0] != "0")
                self.assertLessEqual(set(text), set(ALL_FIGURES[:base]))

    def test_greatest(self):
        self.assertEqual(figures_of(16 ** 60 - 1, 2), "1" * 240)
        self.assertEqual(figures_of(16 ** 60 - 1, 16), "f" * 60)


class Reading(unittest.TestCase):
    """1.5: number_of."""

    def refused(self, text, base):
        self.assertIs(refusal_of(number_of, text, base), NoFigures)

    def test_ordinary(self):
        self.assertEqual(number_of("ff", 16), 255)
        self.assertEqual(number_of("255", 10), 255)
        self.assertEqual(number_of("11111111", 2), 255)
        self.assertEqual(number_of("10", 16), 16)
        self.assertEqual(number_of("2b", 12), 35)
        self.assertEqual(number_of("e", 16), 14)
        self.assertEqual(number_of("1e3", 16), 483)

    def test_what_was_written_is_read(self):
        for base in BASES:
            for number in numbers(base):
                got = number_of(figures_of(number, base), base)
                self.assertEqual(got, number)
                self.assertIs(is_whole(got), True)

    def test_noughts_ahead(self):
        for base in BASES:
            self.assertEqual(number_of("0", base), 0)
            self.assertEqual(number_of("00", base), 0)
            self.assertEqual(number_of("0011", base), base + 1)
            self.assertEqual(number_of("0" * 240, base), 0)
            self.assertEqual(number_of("0" * 239 + "1", base), 1)

    def test_240_figures_and_241(self):
        for base in BASES:
            last = ALL_FIGURES[base - 1]
            self.assertEqual(number_of(last * 240, base), base ** 240 - 1)
            self.assertEqual(number_of("1" + "0" * 239, base), base ** 239)
            for text in (last * 241, "0" * 241, "0" * 240 + "1", "1" + "0" * 240, "1" * 400):
                self.refused(text, base)

    def test_what_was_told_may_be_handed_in_again(self):
        self.assertEqual(figures_of(number_of("f" * 240, 16), 16), "f" * 240)
        self.assertEqual(figures_of(number_of("f" * 240, 16), 2), "1" * 960)

    def test_no_signs(self):
        for base in BASES:
            self.refused("", base)

    def test_figures_beyond_the_base(self):
        for base in BASES:
            for sign in ALL_FIGURES[base:]:
                for text in (sign, "1" + sign, sign + "1", "0" + sign + "0", "1" * 239 + sign):
                    self.refused(text, base)

    def test_each_sign_by_itself_and_among_figures(self):
        for base in BASES:
            for sign in SIGNS + ["%", "\n", "\t"]:
                at = ALL_FIGURES[:base].find(sign)
                for text in (sign, "1" + sign, sign + "1", "1" + sign + "1"):
                    if at < 0:
                        self.refused(text, base)
                    else:
                        self.assertEqual(number_of(text, base), int(text, base))

    def test_texts_that_python_would_read(self):
        for base in BASES:
            for text in ("0x1", "0X1", "0B1", "0o1", "1_0", "0_0", "_1", "1_", " 1", "1 ", "1\n", "\t1", "+1", "-1",
                         "-0", "1.0", "1,0", "A", "F", "1A", "FF", "\u0661", "\u00b2", "\uff11", "\uff46",
                         "1\x00", "\ud800"):
                self.refused(text, base)

    def test_0b1_is_read_by_its_figures(self):
        for base in BASES:
            if base < 12:
                self.refused("0b1", base)
            else:
                self.assertEqual(number_of("0b1", base), 11 * base + 1)

    def test_what_is_no_text(self):
        for thing in no_texts():
            for base in BASES:
                self.refused(thing, base)

    def test_what_is_refused_stays(self):
        things = ["1", "2"]
        self.refused(things, 10)
        self.assertEqual(things, ["1", "2"])


if __name__ == "__main__":
    unittest.main()
