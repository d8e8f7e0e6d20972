import unittest
from fractions import Fraction

from padwright.grids import grid_value, gridded
from padwright.ratios import is_fraction
from padwright.wholes import is_whole
from things import SIXTY, WAYS, k_told, pair_of


class Gridded(unittest.TestCase):
    """1.4: gridded."""

    def by_ways(self, value, base, places):
        return [gridded(value, base, places, way) for way in WAYS]

    def check(self, value, base, places):
        for way in WAYS:
            got = gridded(value, base, places, way)
            self.assertIs(is_whole(got), True)
            self.assertEqual(got, k_told(value, base, places, way), (value, base, places, way))

    def test_the_documents_examples(self):
        self.assertEqual(self.by_ways((5, 2), 10, 0), [2, 3, 2, 3, 2])
        self.assertEqual(self.by_ways((-5, 2), 10, 0), [-3, -2, -2, -2, -2])
        self.assertEqual(self.by_ways((1, 8), 10, 2), [12, 13, 12, 13, 12])

    def test_midway_by_an_odd_k_below(self):
        self.assertEqual(self.by_ways((7, 2), 10, 0), [3, 4, 3, 4, 4])
        self.assertEqual(self.by_ways((-7, 2), 10, 0), [-4, -3, -3, -3, -4])
        self.assertEqual(self.by_ways((3, 8), 10, 2), [37, 38, 37, 38, 38])
        self.assertEqual(self.by_ways((-3, 8), 10, 2), [-38, -37, -37, -37, -38])

    def test_midway_round_nought(self):
        self.assertEqual(self.by_ways((1, 2), 10, 0), [0, 1, 0, 1, 0])
        self.assertEqual(self.by_ways((-1, 2), 10, 0), [-1, 0, 0, 0, 0])

    def test_beside_the_middle(self):
        self.assertEqual(self.by_ways((12, 5), 10, 0), [2, 3, 2, 2, 2])
        self.assertEqual(self.by_ways((13, 5), 10, 0), [2, 3, 2, 3, 3])
        self.assertEqual(self.by_ways((-12, 5), 10, 0), [-3, -2, -2, -2, -2])
        self.assertEqual(self.by_ways((-13, 5), 10, 0), [-3, -2, -2, -3, -3])

    def test_on_the_grid_all_ways_are_one(self):
        for base in range(2, 17):
            for places in range(7):
                for k in (0, 1, -1, 2, -2, 3, -3, base, -base, base ** places, 1 - base ** places, SIXTY, -SIXTY):
                    value = pair_of(Fraction(k, base ** places))
                    self.assertEqual(self.by_ways(value, base, places), [k] * 5)

    def test_just_beside_the_grid_and_the_middle(self):
        little = Fraction(1, 10 ** 50)
        for base in (2, 3, 10, 16):
            for places in (0, 1, 2, 6):
                step = Fraction(1, base ** places)
                for k in (-3, -2, -1, 0, 1, 2, 3):
                    for part in (Fraction(0), Fraction(1, 2)):
                        for beside in (-little, 0, little):
                            self.check(pair_of((k + part) * step + beside), base, places)

    def test_all_small_ones(self):
        for bottom in range(1, 13):
            for top in range(-40, 41):
                value = pair_of(Fraction(top, bottom))
                for base, places in ((10, 0), (2, 1), (2, 2), (3, 1), (16, 1), (10, 2)):
                    self.check(value, base, places)

    def test_all_bases_and_places(self):
        for base in range(2, 17):
            for places in range(7):
                for value in ((1, 3), (-1, 3), (2, 3), (-2, 3), (22, 7), (-22, 7), (1, 2), (-1, 2), (0, 1)):
                    self.check(value, base, places)

    def test_sixty_figures(self):
        for value in ((SIXTY, SIXTY - 1), (-SIXTY, SIXTY - 1), (SIXTY - 1, SIXTY), (1 - SIXTY, SIXTY),
                      (1, SIXTY), (-1, SIXTY), (SIXTY, 1), (-SIXTY, 1), (SIXTY, 2), (-SIXTY, 2),
                      (SIXTY - 2, 2), (2 - SIXTY, 2), (SIXTY, 7 * 10 ** 58),
                      (SIXTY // 2, SIXTY), (SIXTY // 2 + 1, SIXTY)):
            value = pair_of(Fraction(*value))
            for base in (2, 10, 16):
                for places in (0, 1, 6):
                    self.check(value, base, places)

    def test_how_far_it_lies_from_the_value(self):
        for top in range(-50, 51):
            value = pair_of(Fraction(top, 7))
            for way in WAYS:
                apart = abs(gridded(value, 2, 1, way) - 2 * Fraction(*value))
                self.assertLess(apart, 1)
                if way in ("near", "even"):
                    self.assertLessEqual(apart, Fraction(1, 2))


class Values(unittest.TestCase):
    """1.4: grid_value."""

    def test_ordinary(self):
        self.assertEqual(grid_value(12, 10, 2), (3, 25))
        self.assertEqual(grid_value(-250, 10, 2), (-5, 2))
        self.assertEqual(grid_value(7, 10, 0), (7, 1))
        self.assertEqual(grid_value(3, 2, 1), (3, 2))
        self.assertEqual(grid_value(255, 16, 1), (255, 16))

    def test_nought(self):
        for places in range(7):
            self.assertEqual(grid_value(0, 10, places), (0, 1))

    def test_all_bases_and_places(self):
        for base in range(2, 17):
            for places in range(7):
                for k in (0, 1, -1, 2, -6, 60, 1000000, -1000000, SIXTY, -SIXTY, base ** places, -base ** places):
                    got = grid_value(k, base, places)
                    self.assertEqual(got, pair_of(Fraction(k, base ** places)))
                    self.assertIs(is_fraction(got), True)

    def test_what_was_told_is_gridded_to_its_k(self):
        for k in range(-20, 21):
            for way in WAYS:
                self.assertEqual(gridded(grid_value(k, 16, 6), 16, 6, way), k)


if __name__ == "__main__":
    unittest.main()
