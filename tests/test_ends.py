import unittest

from padwright.ends import ends_of, signed, unsigned
from padwright.errors import NoCore
from things import ALL_FIGURES, ENDS, SIGNS, STYLES, refusal_of, texts_of


class Ends(unittest.TestCase):
    """2.3: ends_of and signed."""

    def test_each_style(self):
        for (style, below), ends in ENDS.items():
            got = ends_of(style, below)
            self.assertEqual(got, ends)
            self.assertIs(got.__class__, tuple)

    def test_signed(self):
        self.assertEqual([signed("7", style, False) for style in STYLES], ["7", "+7", " 7", "7", "7"])
        self.assertEqual([signed("7", style, True) for style in STYLES], ["-7", "-7", "-7", "(7)", "7-"])

    def test_signed_with_bodies_of_whatever_signs(self):
        for (style, below), (lead, tail) in ENDS.items():
            for body in ["", "12,345.67", "-", "--", "()", "+1", " 1 ", "abc", "x" * 60] + SIGNS:
                self.assertEqual(signed(body, style, below), lead + body + tail)


class Unsigned(unittest.TestCase):
    """2.3: unsigned."""

    def refused(self, core, style):
        self.assertIs(refusal_of(unsigned, core, style), NoCore, (core, style))

    def check(self, core, style):
        """Told by trying each piece of the core as a body, by the words of the document."""
        pieces = {core[start:end] for start in range(len(core)) for end in range(start + 1, len(core) + 1)}
        ways = [(below, body) for body in pieces for below in (False, True)
                if body[0] in ALL_FIGURES and body[-1] in ALL_FIGURES
                and ENDS[style, below][0] + body + ENDS[style, below][1] == core]
        self.assertLessEqual(len(ways), 1)
        if ways:
            got = unsigned(core, style)
            self.assertEqual(got, ways[0])
            self.assertEqual([part.__class__ for part in got], [bool, str])
            self.assertIs(got.__class__, tuple)
        else:
            self.refused(core, style)

    def test_ordinary(self):
        self.assertEqual(unsigned("-12,345.67", "minus"), (True, "12,345.67"))
        self.assertEqual(unsigned("12,345.67", "minus"), (False, "12,345.67"))
        self.assertEqual(unsigned("+1", "plus"), (False, "1"))
        self.assertEqual(unsigned("-1", "plus"), (True, "1"))
        self.assertEqual(unsigned(" 1", "blank"), (False, "1"))
        self.assertEqual(unsigned("-1", "blank"), (True, "1"))
        self.assertEqual(unsigned("1", "brackets"), (False, "1"))
        self.assertEqual(unsigned("(1)", "brackets"), (True, "1"))
        self.assertEqual(unsigned("1", "behind"), (False, "1"))
        self.assertEqual(unsigned("1-", "behind"), (True, "1"))

    def test_what_was_signed_is_unsigned(self):
        bodies = [f + g for f in ALL_FIGURES for g in ["", "0", "f"]] + [f"1{sign}2" for sign in SIGNS]
        bodies += ["0.05", "ff.0", "1--2", "1)(2", "1 + 2", "1" * 60, "0" + "-" * 60 + "a"]
        for style, below in ENDS:
            for body in bodies:
                self.assertEqual(unsigned(signed(body, style, below), style), (below, body))

    def test_all_short_cores(self):
        for core in texts_of("+-() 0fg", 4):
            for style in STYLES:
                self.check(core, style)

    def test_each_sign_at_the_ends_of_a_core(self):
        for sign in SIGNS:
            for core in (sign, sign + "1", "1" + sign, sign + "1" + sign, sign + sign, "+" + sign, " " + sign,
                         "-" + sign, "-" + sign + "1", "1" + sign + "-", "(1" + sign + ")", "(" + sign + "1)"):
                for style in STYLES:
                    self.check(core, style)

    def test_bodies_that_do_not_begin_or_end_with_a_figure(self):
        for style, below in ENDS:
            for body in ("", ",1", "1,", ".5", "5.", " 1", "1 ", "g", "1g", "g1", "A", "F1", "1F", "*", "--", "_1",
                         "1_"):
                self.refused(signed(body, style, below), style)

    def test_ends_that_lack_or_are_of_another_style(self):
        for core, style in (("+1", "minus"), (" 1", "minus"), ("(1)", "minus"), ("1-", "minus"), ("--1", "minus"),
                            ("1", "plus"), (" 1", "plus"), ("+-1", "plus"), ("1", "blank"), ("+1", "blank"),
                            ("  1", "blank"), ("-1", "brackets"), ("(1", "brackets"), ("1)", "brackets"),
                            ("((1))", "brackets"), ("()", "brackets"), (")1(", "brackets"), ("-1", "behind"),
                            ("1--", "behind"), ("-", "behind"), ("-", "minus"), ("+", "plus"), (" ", "blank")):
            self.refused(core, style)

    def test_no_signs(self):
        for style in STYLES:
            self.refused("", style)


if __name__ == "__main__":
    unittest.main()
