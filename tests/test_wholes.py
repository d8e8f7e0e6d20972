import unittest

from padwright.wholes import common_divisor, is_whole, power_of
from things import SIXTY, no_wholes


class Wholes(unittest.TestCase):
    """1.1 and 0.2: what a whole number is."""

    def test_ints_are_whole(self):
        for number in (0, 1, -1, 2, 7, -12, 255, SIXTY, -SIXTY, 10 ** 5000):
            self.assertIs(is_whole(number), True)

    def test_truths_are_not(self):
        self.assertIs(is_whole(True), False)
        self.assertIs(is_whole(False), False)

    def test_nothing_else_is(self):
        for thing in no_wholes():
            self.assertIs(is_whole(thing), False)

    def test_what_is_asked_of_stays(self):
        things = [1, [2]]
        self.assertIs(is_whole(things), False)
        self.assertEqual(things, [1, [2]])


class Powers(unittest.TestCase):
    """1.1: powers."""

    def test_ordinary(self):
        self.assertEqual(power_of(2, 3), 8)
        self.assertEqual(power_of(3, 2), 9)
        self.assertEqual(power_of(10, 6), 1000000)

    def test_times_nought_is_one(self):
        for base in (0, 1, 2, 10, 16, -3):
            self.assertEqual(power_of(base, 0), 1)

    def test_times_one_is_the_base(self):
        for base in (0, 1, 2, 10, 16, -3):
            self.assertEqual(power_of(base, 1), base)

    def test_all_bases_and_times(self):
        for base in range(2, 17):
            for times in range(61):
                self.assertEqual(power_of(base, times), base ** times)

    def test_other_bases(self):
        for base in (-16, -3, -1, 0, 1, 17, 1000, SIXTY):
            for times in (0, 1, 2, 3, 59, 60):
                self.assertEqual(power_of(base, times), base ** times)

    def test_greatest(self):
        self.assertEqual(power_of(16, 60), 1 << 240)
        self.assertEqual(power_of(2, 60), 1152921504606846976)

    def test_it_is_a_whole_number(self):
        for times in (0, 1, 60):
            self.assertIs(is_whole(power_of(16, times)), True)


class Divisors(unittest.TestCase):
    """The greatest common divisor, on which 1.2 rests."""

    def test_by_trying_all(self):
        for one in range(-12, 13):
            for other in range(-12, 13):
                if one or other:
                    told = max(d for d in range(1, 13) if one % d == 0 and other % d == 0)
                    self.assertEqual(common_divisor(one, other), told)


if __name__ == "__main__":
    unittest.main()
