"""Point 63: the greatest and the least values of sums."""

import copy
import unittest
from fractions import Fraction

from shadowlinks.bounds import greatest, least, span
from shadowlinks.errors import NoSolution
from tests.linecases import (
    EXAMPLE, THEORIES, cut_boxes, does_follow, eq, is_satisfiable, le, made_theories, meetings, negated, terms,
)

SUMS = [
    terms(), terms(x=1), terms(x=-3), terms(y=1), terms(x=2, y=-1), terms(x=1, y=1), terms(x=1, y=1, z=-2), terms(z=7),
]


def sums_of(names):
    return [one for one in SUMS if all(name in names for name, _ in one)]


def scaled(one, factor):
    return tuple((name, number * factor) for name, number in one)


def ask_span(theory, one):
    return span(theory, terms=one)


class BoundsTest(unittest.TestCase):
    def test_examples(self):
        self.assertEqual(greatest(EXAMPLE, terms(x=1)), (3, 1))
        self.assertIsNone(least(EXAMPLE, terms(x=1)))
        self.assertEqual(least(EXAMPLE, terms(y=1)), (1, 1))
        self.assertIsNone(greatest(EXAMPLE, terms(y=1)))
        self.assertEqual(span(EXAMPLE, terms=terms(x=1, y=1)), ((4, 1), (4, 1)))
        self.assertEqual(span(EXAMPLE, terms=terms(x=-2)), ((-6, 1), None))
        self.assertEqual(span(EXAMPLE, terms=()), ((0, 1), (0, 1)))

    def test_fractions(self):
        theory = (("x", "y"), (le(3, x=2), le(1, x=-3), eq(-2, y=7)))
        self.assertEqual(span(theory, terms=terms(x=1)), ((-1, 3), (3, 2)))
        self.assertEqual(span(theory, terms=terms(x=1, y=1)), ((-13, 21), (17, 14)))
        self.assertEqual((least(theory, terms(y=14)), greatest(theory, terms(y=14))), ((-4, 1), (-4, 1)))

    def test_no_bounds(self):
        for theory in (((), ()), (("x", "y"), ())):
            self.assertEqual(span(theory, terms=()), ((0, 1), (0, 1)))
        theory = (("x", "y"), (le(2, x=1),))
        self.assertEqual(span((("x", "y"), ()), terms=terms(x=1)), (None, None))
        self.assertEqual(span(theory, terms=terms(x=1)), (None, (2, 1)))
        self.assertEqual(span(theory, terms=terms(y=1)), (None, None))
        self.assertEqual(span(theory, terms=terms(x=1, y=1)), (None, None))

    def test_no_solution(self):
        found = 0
        for theory in THEORIES:
            if not is_satisfiable(theory):
                for one in sums_of(theory[0]):
                    found += 1
                    for ask in (greatest, least, ask_span):
                        with self.assertRaises(NoSolution):
                            ask(theory, one)
        self.assertGreater(found, 3)

    def test_all_theories(self):
        for theory in (*THEORIES, *made_theories(2, 60)):
            if is_satisfiable(theory):
                for one in sums_of(theory[0]):
                    high, low = greatest(theory, one), least(theory, one)
                    self.assertEqual(span(theory, terms=one), (low, high))
                    self.check_highest(theory, one, high)
                    self.check_highest(theory, negated(one), None if low is None else (-low[0], low[1]))

    def test_boxes_with_cuts(self):
        for theory in cut_boxes(6, 60):
            points = meetings(theory)
            for one in sums_of(theory[0]):
                values = [sum(dict(one).get(name, 0) * value for name, value in zip(theory[0], p)) for p in points]
                if values:
                    low, high = Fraction(min(values)), Fraction(max(values))
                    wanted = ((low.numerator, low.denominator), (high.numerator, high.denominator))
                    self.assertEqual(span(theory, terms=one), wanted)
                else:
                    with self.assertRaises(NoSolution):
                        span(theory, terms=one)

    def check_highest(self, theory, one, value):
        if value is None:
            self.assertFalse(does_follow(theory, (one, "<=", 10 ** 9)))
        else:
            top, bottom = value
            self.assertTrue(does_follow(theory, (scaled(one, bottom), "<=", top)))
            self.assertFalse(does_follow(theory, (scaled(one, 99 * bottom), "<=", 99 * top - 1)))

    def test_arguments_stay(self):
        theory = copy.deepcopy(EXAMPLE)
        span(theory, terms=terms(x=1))
        greatest(theory, terms(x=1, y=1))
        least(theory, terms(x=1, y=1))
        self.assertEqual(theory, EXAMPLE)


if __name__ == "__main__":
    unittest.main()
