import unittest
from fractions import Fraction
from math import ceil, floor
from random import Random

from fourcords.errors import ZeroBottom
from fourcords.ratios import added, ceiling, compared, divided, floored, fraction, multiplied, subtracted, vector
from reference import HUGE, as_lists, number, numbers

PAIRS = [(0, 1), (0, 7), (1, 1), (-1, 1), (6, 4), (-6, 4), (5, 3), (-5, 3), (12, 3), (-12, 3), (2, 6), (-2, 6),
         (HUGE, 3), (-HUGE, 10 ** 119), (3, HUGE)]


class Ratios(unittest.TestCase):
    def test_fraction(self):
        self.assertEqual(fraction(6, -4), (-3, 2))
        self.assertEqual(fraction(-6, -4), (3, 2))
        self.assertEqual(fraction(0, 5), (0, 1))
        self.assertEqual(fraction(0, -5), (0, 1))
        self.assertEqual(fraction(8, 4), (2, 1))
        self.assertEqual(fraction(8, -4), (-2, 1))
        random = Random(1)
        for _ in range(300):
            top = random.randint(-40, 40)
            bottom = random.choice([-1, 1]) * random.randint(1, 40)
            self.assertEqual(number(fraction(top, bottom)), Fraction(top, bottom))

    def test_fraction_with_the_bottom_zero(self):
        for top in (0, 1, -3, HUGE):
            with self.assertRaises(ZeroBottom):
                fraction(top, 0)

    def test_sums_products_and_comparisons(self):
        for one in PAIRS:
            for two in PAIRS:
                x, y = Fraction(*one), Fraction(*two)
                self.assertEqual(number(added(one, two)), x + y)
                self.assertEqual(number(subtracted(one, two)), x - y)
                self.assertEqual(number(multiplied(one, two)), x * y)
                if y != 0:
                    self.assertEqual(number(divided(one, two)), x / y)
                self.assertEqual(compared(one, two), (x > y) - (x < y))
                self.assertIs(type(compared(one, two)), int)
                for told in (added, multiplied, compared):
                    self.assertEqual(told(as_lists(one), as_lists(two)), told(one, two))

    def test_floors_and_ceilings(self):
        for one in PAIRS:
            self.assertEqual(floored(one), floor(Fraction(*one)))
            self.assertEqual(ceiling(one), ceil(Fraction(*one)))
            self.assertEqual(floored(list(one)), floored(one))
            self.assertEqual(ceiling(list(one)), ceiling(one))
        self.assertEqual([floored((-1, 2)), ceiling((-1, 2)), floored((-4, 2)), ceiling((-4, 2))], [-1, 0, -2, -2])
        self.assertEqual([floored((1, 2)), ceiling((1, 2)), floored((4, 2)), ceiling((4, 2))], [0, 1, 2, 2])

    def test_vector(self):
        self.assertEqual(vector((2, -4), 6), ((1, -2), 3))
        self.assertEqual(vector([2, -4], -6), ((-1, 2), 3))
        self.assertEqual(vector((0, 0), 6), ((0, 0), 1))
        self.assertEqual(vector((0, 0), -6), ((0, 0), 1))
        self.assertEqual(vector((), 6), ((), 1))
        self.assertEqual(vector([], -6), ((), 1))
        self.assertEqual(vector((6, 9), 5), ((6, 9), 5))
        random = Random(2)
        for _ in range(200):
            tops = [random.randint(-30, 30) for _ in range(random.randint(0, 4))]
            bottom = random.choice([-1, 1]) * random.randint(1, 30)
            before = list(tops)
            self.assertEqual(numbers(vector(tops, bottom)), [Fraction(top, bottom) for top in tops])
            self.assertEqual(tops, before)

    def test_vector_with_the_bottom_zero(self):
        for tops in ((), [], (0,), (1, 2)):
            with self.assertRaises(ZeroBottom):
                vector(tops, 0)


if __name__ == "__main__":
    unittest.main()
