import unittest
from collections import namedtuple
from fractions import Fraction

from padwright.errors import NoNumber
from padwright.ratios import difference, fraction, is_below, is_fraction
from things import SIXTY, no_wholes, pair_of

SMALL = [(top, bottom) for bottom in range(1, 7) for top in range(-13, 14)
         if Fraction(top, bottom).denominator == bottom]
GREAT = [(SIXTY, 1), (-SIXTY, 1), (1, SIXTY), (-1, SIXTY), (SIXTY, SIXTY - 1), (SIXTY - 1, SIXTY),
         (-SIXTY, SIXTY - 1), (1 - SIXTY, SIXTY), (SIXTY - 2, SIXTY - 1), (0, 1)]


class Making(unittest.TestCase):
    """1.2: fraction."""

    def check(self, top, bottom, told):
        got = fraction(top, bottom)
        self.assertEqual(got, told)
        self.assertIs(got.__class__, tuple)
        self.assertEqual([part.__class__ for part in got], [int, int])
        self.assertIs(is_fraction(got), True)

    def test_the_documents_example(self):
        self.check(2, -4, (-1, 2))

    def test_ordinary(self):
        self.check(1, 2, (1, 2))
        self.check(6, 4, (3, 2))
        self.check(-6, 4, (-3, 2))
        self.check(-6, -4, (3, 2))
        self.check(2, 1, (2, 1))
        self.check(2, -1, (-2, 1))
        self.check(12, 4, (3, 1))

    def test_nought(self):
        for bottom in (1, 2, -1, -7, SIXTY, -SIXTY):
            self.check(0, bottom, (0, 1))

    def test_all_small_ones(self):
        for top in range(-25, 26):
            for bottom in range(-25, 26):
                if bottom:
                    self.check(top, bottom, pair_of(Fraction(top, bottom)))

    def test_sixty_figures(self):
        parts = [SIXTY, SIXTY - 1, 10 ** 59, 7 * 10 ** 59, 2 ** 199, 3 ** 125, 2 ** 100 * 3 ** 60, 9 * 10 ** 59 + 7]
        for top in parts:
            for bottom in parts:
                for signed_top in (top, -top):
                    for signed_bottom in (bottom, -bottom):
                        self.check(signed_top, signed_bottom, pair_of(Fraction(signed_top, signed_bottom)))

    def test_fibonacci_neighbours_take_the_most_steps(self):
        lesser, greater = 1, 1
        while len(str(lesser + greater)) <= 60:
            lesser, greater = greater, lesser + greater
        self.check(greater, lesser, (greater, lesser))
        self.check(-2 * lesser, 2 * greater, (-lesser, greater))

    def test_no_whole_numbers_are_refused(self):
        for thing in no_wholes():
            for good in (1, 0, -4, SIXTY):
                self.assertRaises(NoNumber, fraction, thing, good)
                self.assertRaises(NoNumber, fraction, good, thing)
            self.assertRaises(NoNumber, fraction, thing, thing)

    def test_bottom_nought_is_refused(self):
        for top in (0, 1, -1, SIXTY, -SIXTY, 10 ** 5000):
            self.assertRaises(NoNumber, fraction, top, 0)

    def test_what_is_refused_stays(self):
        things = [1, 2]
        self.assertRaises(NoNumber, fraction, things, 2)
        self.assertRaises(NoNumber, fraction, 2, things)
        self.assertEqual(things, [1, 2])


class Asking(unittest.TestCase):
    """1.2 and 0.2: is_fraction."""

    def test_the_documents_examples(self):
        self.assertIs(is_fraction((1, 2)), True)
        for thing in ((2, 4), (1, 0), (1, -2), (True, 2), [1, 2], 1, None):
            self.assertIs(is_fraction(thing), False, thing)

    def test_nought_and_wholes(self):
        self.assertIs(is_fraction((0, 1)), True)
        self.assertIs(is_fraction((2, 1)), True)
        self.assertIs(is_fraction((-2, 1)), True)
        for thing in ((0, 2), (0, 0), (0, -1), (0, SIXTY), (1, True), (0, True), (False, 1)):
            self.assertIs(is_fraction(thing), False, thing)

    def test_all_small_ones(self):
        for top in range(-20, 21):
            for bottom in range(-20, 21):
                told = bottom >= 1 and pair_of(Fraction(top, bottom)) == (top, bottom)
                self.assertIs(is_fraction((top, bottom)), told, (top, bottom))

    def test_sixty_figures(self):
        for value in GREAT:
            self.assertIs(is_fraction(value), True)
        for thing in ((SIXTY, SIXTY), (SIXTY, 3), (-3, SIXTY), (2 ** 199, 2), (10 ** 59, 5), (1, -SIXTY)):
            self.assertIs(is_fraction(thing), False)

    def test_parts_that_are_no_wholes(self):
        for thing in no_wholes():
            for part in ((thing, 1), (1, thing), (thing, thing), (thing,), [thing, 1]):
                self.assertIs(is_fraction(part), False)

    def test_other_things(self):
        for thing in no_wholes():
            self.assertIs(is_fraction(thing), thing.__class__ is tuple and thing == (1, 2))
        for thing in ((), (1,), (1, 2, 3), (1, 2, 1), ((1, 2),), ((1, 2), (3, 4)), "12", "1/2", {1: 2}, Fraction(1, 2)):
            self.assertIs(is_fraction(thing), False)

    def test_a_tuple_by_another_name_is_a_tuple(self):
        named = namedtuple("named", "top bottom")
        self.assertIs(is_fraction(named(1, 2)), True)
        self.assertIs(is_fraction(named(2, 4)), False)

    def test_what_is_asked_of_stays(self):
        things = [1, 2]
        is_fraction(things)
        self.assertEqual(things, [1, 2])


class Comparing(unittest.TestCase):
    """1.3: is_below and difference."""

    def check(self, one, other):
        self.assertIs(is_below(one, other), Fraction(*one) < Fraction(*other))
        got = difference(one, other)
        self.assertEqual(got, pair_of(Fraction(*one) - Fraction(*other)))
        self.assertIs(is_fraction(got), True)

    def test_ordinary(self):
        self.assertIs(is_below((1, 3), (1, 2)), True)
        self.assertIs(is_below((1, 2), (1, 3)), False)
        self.assertIs(is_below((-1, 2), (-1, 3)), True)
        self.assertIs(is_below((-1, 2), (1, 3)), True)
        self.assertEqual(difference((1, 2), (1, 3)), (1, 6))
        self.assertEqual(difference((1, 3), (1, 2)), (-1, 6))
        self.assertEqual(difference((1, 2), (-1, 2)), (1, 1))
        self.assertEqual(difference((3, 4), (1, 4)), (1, 2))

    def test_a_fraction_and_itself(self):
        for value in SMALL + GREAT:
            self.assertIs(is_below(value, value), False)
            self.assertEqual(difference(value, value), (0, 1))

    def test_nought(self):
        for value in SMALL + GREAT:
            self.assertEqual(difference(value, (0, 1)), value)
            self.assertEqual(difference((0, 1), value), (-value[0], value[1]))

    def test_all_small_ones(self):
        for one in SMALL:
            for other in SMALL:
                self.check(one, other)

    def test_sixty_figures(self):
        for one in GREAT:
            for other in GREAT + [(1, 2), (-7, 3)]:
                self.check(one, other)
                self.check(other, one)

    def test_what_was_told_may_be_handed_in_again(self):
        told = (0, 1)
        for value in GREAT:
            told = difference(told, value)
            self.check(told, value)
            self.check((-told[0], told[1]), value)


if __name__ == "__main__":
    unittest.main()
