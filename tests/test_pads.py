import unittest

from padwright.pads import padded, padded_inside, pads_of
from padwright.wholes import is_whole
from things import SIDES, SIGNS

TEXTS = ["", "7", "-7", "a b", " ", "  ", "**", "0", "12,345.67", "x" * 39, "x" * 40, "x" * 41, "".join(SIGNS)]


class Pads(unittest.TestCase):
    """3.1: pads_of."""

    def test_the_documents_examples(self):
        self.assertEqual([pads_of(3, 8, side) for side in SIDES], [(0, 5), (5, 0), (2, 3)])

    def test_an_even_number_is_halved(self):
        self.assertEqual([pads_of(3, 7, side) for side in SIDES], [(0, 4), (4, 0), (2, 2)])

    def test_one_that_lacks(self):
        self.assertEqual([pads_of(3, 4, side) for side in SIDES], [(0, 1), (1, 0), (0, 1)])

    def test_as_long_or_longer_lacks_none(self):
        for width in range(41):
            for length in (width, width + 1, width + 2, 40, 41, 60, 400):
                if length >= width:
                    for side in SIDES:
                        self.assertEqual(pads_of(length, width, side), (0, 0))

    def test_all_lengths_and_widths(self):
        for width in range(41):
            for length in range(width):
                lacks = width - length
                self.assertEqual(pads_of(length, width, "left"), (0, lacks))
                self.assertEqual(pads_of(length, width, "right"), (lacks, 0))
                ahead, behind = pads_of(length, width, "middle")
                self.assertEqual(ahead + behind, lacks)
                self.assertIn(behind - ahead, (0, 1))
                self.assertTrue(is_whole(ahead) and is_whole(behind))

    def test_it_is_a_tuple(self):
        for side in SIDES:
            for length in (0, 3, 8, 9):
                self.assertIs(pads_of(length, 8, side).__class__, tuple)


class Padded(unittest.TestCase):
    """3.2: padded."""

    def test_ordinary(self):
        self.assertEqual([padded("abc", 8, "*", side) for side in SIDES], ["abc*****", "*****abc", "**abc***"])
        self.assertEqual([padded("abc", 7, " ", side) for side in SIDES], ["abc    ", "    abc", "  abc  "])
        self.assertEqual(padded("7", 3, "0", "right"), "007")

    def test_as_long_or_longer_is_never_cut(self):
        for text in TEXTS:
            for width in range(min(40, len(text)) + 1):
                for side in SIDES:
                    self.assertEqual(padded(text, width, "*", side), text)

    def test_texts_without_signs(self):
        for width in range(41):
            for side in SIDES:
                self.assertEqual(padded("", width, "*", side), "*" * width)

    def test_all_fills_the_texts_own_too(self):
        for fill in SIGNS:
            for text in ("", fill, "ab", fill + "a", "a" + fill):
                lacks = 5 - len(text)
                self.assertEqual(padded(text, 5, fill, "left"), text + fill * lacks)
                self.assertEqual(padded(text, 5, fill, "right"), fill * lacks + text)
                self.assertEqual(padded(text, 5, fill, "middle"),
                                 fill * (lacks // 2) + text + fill * (lacks - lacks // 2))

    def test_all_widths(self):
        for text in TEXTS:
            for width in range(41):
                for side in SIDES:
                    ahead, behind = pads_of(len(text), width, side)
                    got = padded(text, width, "=", side)
                    self.assertEqual(got, "=" * ahead + text + "=" * behind)
                    self.assertEqual(len(got), max(width, len(text)))


class PaddedInside(unittest.TestCase):
    """3.2: padded_inside."""

    def test_the_documents_example(self):
        self.assertEqual(padded_inside("-", "7", 4, "0"), "-007")

    def test_ordinary(self):
        self.assertEqual(padded_inside("+", "12.5", 8, " "), "+   12.5")
        self.assertEqual(padded_inside("(", "7)", 6, "*"), "(***7)")
        self.assertEqual(padded_inside("ab", "cd", 7, "-"), "ab---cd")

    def test_texts_without_signs(self):
        for width in range(41):
            self.assertEqual(padded_inside("", "", width, "0"), "0" * width)
        self.assertEqual(padded_inside("", "7", 4, "0"), "0007")
        self.assertEqual(padded_inside("-", "", 4, "0"), "-000")

    def test_as_long_or_longer_is_never_cut(self):
        for lead in TEXTS:
            for rest in TEXTS:
                for width in range(min(40, len(lead) + len(rest)) + 1):
                    self.assertEqual(padded_inside(lead, rest, width, "*"), lead + rest)

    def test_all_widths(self):
        for lead in TEXTS:
            for rest in TEXTS:
                for width in range(41):
                    lacks = max(0, width - len(lead + rest))
                    self.assertEqual(padded_inside(lead, rest, width, "="), lead + "=" * lacks + rest)

    def test_all_fills_the_texts_own_too(self):
        for fill in SIGNS:
            for lead in ("", "-", fill):
                for rest in ("", "7", fill, fill + "7"):
                    self.assertEqual(padded_inside(lead, rest, 5, fill), lead + fill * (5 - len(lead + rest)) + rest)


if __name__ == "__main__":
    unittest.main()
