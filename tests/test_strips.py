import unittest

from padwright.pads import padded, padded_inside
from padwright.strips import stripped, stripped_inside
from things import SIDES, SIGNS, filled_told, texts_of

FILL = "0"
SHORT = texts_of("0a ", 5)


def all_padded(width, fill, side):
    """For each text that a short one is padded to, the short ones, by rising lengths."""
    told = {}
    for plain in SHORT:
        told.setdefault(filled_told(plain, width, fill, side), []).append(plain)
    return told


def all_padded_inside(lead, width, fill):
    """For each text that a lead and a short rest are padded to, the rests, by rising lengths."""
    told = {}
    for rest in SHORT:
        told.setdefault(lead + fill * max(0, width - len(lead + rest)) + rest, []).append(rest)
    return told


class Stripped(unittest.TestCase):
    """3.3: stripped."""

    def test_the_documents_examples(self):
        self.assertEqual(stripped("7  ", 3, " ", "left"), ["7", "7 ", "7  "])
        self.assertEqual(stripped("007", 3, "0", "right"), ["7", "07", "007"])
        self.assertEqual(stripped("0a0", 3, "0", "middle"), ["a", "0a", "0a0"])

    def test_ordinary(self):
        self.assertEqual(stripped("abc**", 5, "*", "left"), ["abc", "abc*", "abc**"])
        self.assertEqual(stripped("abc**", 5, "*", "right"), ["abc**"])
        self.assertEqual(stripped("abc**", 5, "*", "middle"), ["abc*", "abc**"])
        self.assertEqual(stripped("**abc", 5, "*", "right"), ["abc", "*abc", "**abc"])
        self.assertEqual(stripped("**abc", 5, "*", "left"), ["**abc"])
        self.assertEqual(stripped("**abc", 5, "*", "middle"), ["**abc"])
        self.assertEqual(stripped("*abc**", 6, "*", "middle"), ["abc", "abc*", "*abc*", "*abc**"])
        self.assertEqual(stripped("abc", 3, "*", "left"), ["abc"])

    def test_shorter_than_the_width(self):
        for text in ["", "a", "ab", "*", "**", "a*", "*a"]:
            for width in range(len(text) + 1, 41):
                for side in SIDES:
                    self.assertEqual(stripped(text, width, "*", side), [])

    def test_longer_than_the_width(self):
        for text in ["a", "ab", "*", "**", "a*", "*a", "*" * 41, "x" * 41, "*" * 400, "x" * 400]:
            for width in range(min(len(text), 41)):
                for side in SIDES:
                    self.assertEqual(stripped(text, width, "*", side), [text])

    def test_no_width_and_no_signs(self):
        for side in SIDES:
            self.assertEqual(stripped("", 0, " ", side), [""])
            self.assertEqual(stripped(" ", 0, " ", side), [" "])
            self.assertEqual(stripped("", 1, " ", side), [])

    def test_texts_all_of_fills(self):
        for width in range(41):
            for side in SIDES:
                self.assertEqual(stripped("*" * width, width, "*", side), ["*" * length for length in range(width + 1)])

    def test_just_the_texts_that_are_padded_to_it(self):
        for fill in "0 a":
            for side in SIDES:
                for width in range(6):
                    told = all_padded(width, fill, side)
                    for text in SHORT:
                        self.assertEqual(stripped(text, width, fill, side), told.get(text, []))

    def test_all_fills(self):
        for fill in SIGNS:
            other = "b" if fill == "a" else "a"
            self.assertEqual(stripped(other + fill * 2, 3, fill, "left"), [other, other + fill, other + fill * 2])
            self.assertEqual(stripped(fill * 2 + other, 3, fill, "right"), [other, fill + other, fill * 2 + other])
            self.assertEqual(stripped(fill + other + fill, 3, fill, "middle"),
                             [other, fill + other, fill + other + fill])

    def test_wide_ones(self):
        self.assertEqual(stripped("x" + "*" * 39, 40, "*", "left"), ["x" + "*" * length for length in range(40)])
        self.assertEqual(stripped("*" * 39 + "x", 40, "*", "right"), ["*" * length + "x" for length in range(40)])
        self.assertEqual(stripped("*" * 20 + "x" + "*" * 20, 41, "*", "middle")[0], "x")
        self.assertEqual(len(stripped("*" * 20 + "x" + "*" * 20, 41, "*", "middle")), 41)

    def test_a_list_that_was_told_is_the_askers_own(self):
        for text, width in (("7  ", 3), ("7  ", 2), ("7  ", 4)):
            first = stripped(text, width, " ", "left")
            kept = list(first)
            first.append("x")
            self.assertEqual(stripped(text, width, " ", "left"), kept)
            self.assertIs(stripped(text, width, " ", "left").__class__, list)


class StrippedInside(unittest.TestCase):
    """3.4: stripped_inside."""

    def test_ordinary(self):
        self.assertEqual(stripped_inside("-007", "-", 4, "0"), ["7", "07", "007"])
        self.assertEqual(stripped_inside("(**7)", "(", 5, "*"), ["7)", "*7)", "**7)"])
        self.assertEqual(stripped_inside("--5", "-", 3, "-"), ["5", "-5"])
        self.assertEqual(stripped_inside("--5", "", 3, "-"), ["5", "-5", "--5"])
        self.assertEqual(stripped_inside("-7", "-", 2, "0"), ["7"])

    def test_another_lead(self):
        for text, lead in (("007", "-"), ("", "-"), (" -7", "-"), ("+07", "-"), ("-", "--"), ("ab", "b"), ("a", "ab")):
            for width in range(41):
                self.assertEqual(stripped_inside(text, lead, width, "0"), [])

    def test_shorter_than_the_width(self):
        for text, lead in (("-7", "-"), ("-", "-"), ("", ""), ("-00", "-"), ("0", "")):
            for width in range(len(text) + 1, 41):
                self.assertEqual(stripped_inside(text, lead, width, "0"), [])

    def test_longer_than_the_width(self):
        for text, lead, rest in (("-007", "-", "007"), ("-", "-", ""), ("0", "", "0"), ("abc", "abc", ""),
                                 ("-" + "0" * 399, "-", "0" * 399)):
            for width in range(min(len(text), 41)):
                self.assertEqual(stripped_inside(text, lead, width, "0"), [rest])

    def test_rests_without_signs_and_all_of_fills(self):
        for lead in ("", "-", "0", "ab", "00"):
            for fills in range(38):
                self.assertEqual(stripped_inside(lead + "0" * fills, lead, len(lead) + fills, "0"),
                                 ["0" * length for length in range(fills + 1)])

    def test_just_the_rests_that_are_padded_to_it(self):
        for fill in "0 a":
            for lead in texts_of("0a", 2):
                for width in range(6):
                    told = all_padded_inside(lead, width, fill)
                    for text in SHORT:
                        self.assertEqual(stripped_inside(text, lead, width, fill), told.get(text, []))

    def test_a_list_that_was_told_is_the_askers_own(self):
        for text, width in (("-007", 4), ("-007", 3), ("-007", 5), ("007", 4)):
            first = stripped_inside(text, "-", width, "0")
            kept = list(first)
            first.append("x")
            self.assertEqual(stripped_inside(text, "-", width, "0"), kept)


class WhatFollows(unittest.TestCase):
    """3.5: what was padded is among what is stripped, and each next one has one fill more."""

    def one_more(self, text, width, side):
        lacks = width - len(text)
        behind = side == "left" or (side == "middle" and lacks % 2 == 1)
        return text + FILL if behind else FILL + text

    def is_bare(self, text, side):
        """Whether it has no fills at the ends that the side puts them to."""
        return {"left": not text.endswith(FILL), "right": not text.startswith(FILL),
                "middle": not text.endswith(FILL) and not text.startswith(FILL)}[side]

    def test_at_a_side(self):
        for side in SIDES:
            for width in range(8):
                for text in SHORT:
                    got = stripped(padded(text, width, FILL, side), width, FILL, side)
                    self.assertIn(text, got)
                    if len(text) > width or self.is_bare(text, side):
                        self.assertEqual(got[0], text)
                    for one, following in zip(got, got[1:]):
                        self.assertEqual(following, self.one_more(one, width, side))

    def test_inside(self):
        for lead in ("", "-", FILL):
            for width in range(8):
                for rest in SHORT:
                    got = stripped_inside(padded_inside(lead, rest, width, FILL), lead, width, FILL)
                    self.assertIn(rest, got)
                    if len(lead + rest) > width or not rest.startswith(FILL):
                        self.assertEqual(got[0], rest)
                    for one, following in zip(got, got[1:]):
                        self.assertEqual(following, FILL + one)


if __name__ == "__main__":
    unittest.main()
