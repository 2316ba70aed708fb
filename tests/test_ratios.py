"""Points 3 and 54: ratios."""

import unittest
from fractions import Fraction
from itertools import product

from shadowlinks.ratios import is_below, quotient, ratio, ratio_at, times, total

TOPS = (-12, -7, -3, -1, 0, 1, 2, 6, 35)
BOTTOMS = (-9, -4, -1, 1, 2, 6, 15)


def pair(number):
    number = Fraction(number)
    return number.numerator, number.denominator


def some_ratios():
    return sorted({pair(Fraction(top, bottom)) for top, bottom in product(TOPS, BOTTOMS)})


class RatioTest(unittest.TestCase):
    def test_lowest_terms(self):
        for top, bottom in product(TOPS, BOTTOMS):
            self.assertEqual(ratio(top, bottom), pair(Fraction(top, bottom)))
        self.assertEqual(ratio(6, -4), (-3, 2))
        self.assertEqual(ratio(-6, -4), (3, 2))

    def test_zero_and_integers(self):
        for bottom in BOTTOMS:
            self.assertEqual(ratio(0, bottom), (0, 1))
        self.assertEqual(ratio(0), (0, 1))
        self.assertEqual(ratio(7), (7, 1))
        self.assertEqual(ratio(-7), (-7, 1))
        self.assertEqual(ratio(7, bottom=14), (1, 2))

    def test_big_numbers(self):
        self.assertEqual(ratio(6 * 10 ** 40, -4 * 10 ** 40), (-3, 2))


class ArithmeticTest(unittest.TestCase):
    def test_total(self):
        self.assertEqual(total(), (0, 1))
        self.assertEqual(total((1, 2)), (1, 2))
        self.assertEqual(total((1, 2), (1, 3), (1, 6)), (1, 1))
        self.assertEqual(total((1, 2), (-1, 2)), (0, 1))
        for first, second in product(some_ratios(), repeat=2):
            self.assertEqual(total(first, second), pair(Fraction(*first) + Fraction(*second)))

    def test_products_quotients_and_order(self):
        for first, second in product(some_ratios(), repeat=2):
            self.assertEqual(times(first, second), pair(Fraction(*first) * Fraction(*second)))
            self.assertIs(is_below(first, second), Fraction(*first) < Fraction(*second))
            if second != (0, 1):
                self.assertEqual(quotient(first, second), pair(Fraction(*first) / Fraction(*second)))

    def test_ratio_at(self):
        values = {"x": (1, 2), "y": (-2, 3), "z": (0, 1)}
        before = dict(values)
        self.assertEqual(ratio_at((), values), (0, 1))
        self.assertEqual(ratio_at((), {}), (0, 1))
        self.assertEqual(ratio_at((("x", 2),), values), (1, 1))
        self.assertEqual(ratio_at((("x", 3), ("y", -2), ("z", 9)), values), (17, 6))
        self.assertEqual(ratio_at((("x", 4), ("y", 3)), values), (0, 1))
        self.assertEqual(values, before)


if __name__ == "__main__":
    unittest.main()
