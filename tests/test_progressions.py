"""Points 66 and 67: progressions."""

import unittest
from itertools import product

from shadowlinks.progressions import is_in, meet, progression, solve_one

FEW = [(0, -3), (0, 0), (0, 7), (1, 0), (2, 0), (2, 1), (3, 2), (4, 1), (4, 2), (6, 3), (6, 5), (9, 5), (12, 7)]
NUMBERS = range(-80, 81)


def holds(number, modulus):
    return number == 0 if modulus == 0 else number % modulus == 0


def is_right(steps):
    modulus, rest = steps
    return modulus == 0 or (modulus >= 1 and 0 <= rest < modulus)


class ProgressionTest(unittest.TestCase):
    def test_progression(self):
        for modulus, rest, wanted in (
            (0, 5, (0, 5)), (0, -5, (0, -5)), (0, 0, (0, 0)), (1, 9, (1, 0)), (1, -9, (1, 0)), (5, 12, (5, 2)),
            (5, -1, (5, 4)), (5, 5, (5, 0)), (5, 0, (5, 0)), (12, -99, (12, 9)),
        ):
            self.assertEqual(progression(modulus, rest), wanted)
        for modulus, rest in product(range(8), range(-20, 21)):
            found = progression(modulus, rest)
            self.assertTrue(is_right(found))
            for number in NUMBERS:
                self.assertIs(is_in(number, found), holds(number - rest, modulus))

    def test_is_in(self):
        self.assertIs(is_in(7, (0, 7)), True)
        self.assertIs(is_in(-7, (0, 7)), False)
        self.assertIs(is_in(0, (0, 7)), False)
        self.assertIs(is_in(-4, (3, 2)), True)
        self.assertIs(is_in(-3, (3, 2)), False)
        self.assertIs(is_in(10 ** 30, (1, 0)), True)


class SolveOneTest(unittest.TestCase):
    def test_examples(self):
        for coefficient, modulus, rest, wanted in (
            (2, 5, 1, (5, 3)), (2, 4, 1, None), (2, 4, 2, (2, 1)), (0, 0, 0, (1, 0)), (0, 0, 1, None),
            (0, 5, 10, (1, 0)), (0, 5, 3, None), (3, 0, 6, (0, 2)), (3, 0, 7, None), (-3, 0, 6, (0, -2)),
            (-3, 0, -6, (0, 2)), (-2, 5, 1, (5, 2)), (4, 1, 7, (1, 0)), (0, 1, 7, (1, 0)), (6, 3, 0, (1, 0)),
            (6, 3, 1, None), (5, 5, 5, (1, 0)), (3, 0, 0, (0, 0)),
        ):
            self.assertEqual(solve_one(coefficient, modulus, rest), wanted, (coefficient, modulus, rest))

    def test_all(self):
        for coefficient, modulus, rest in product(range(-7, 8), range(13), range(-9, 10)):
            found = solve_one(coefficient, modulus, rest)
            right = [x for x in NUMBERS if holds(coefficient * x - rest, modulus)]
            if found is None:
                self.assertEqual(right, [])
            else:
                self.assertTrue(is_right(found))
                self.assertEqual(right, [x for x in NUMBERS if is_in(x, found)])


class MeetTest(unittest.TestCase):
    def test_any_number(self):
        self.assertEqual(meet(), (1, 0))
        for one in FEW:
            self.assertEqual(meet(one), one)
            self.assertEqual(meet(one, one, one), one)
        self.assertEqual(meet((2, 1), (3, 2)), (6, 5))
        self.assertEqual(meet((4, 1), (6, 3)), (12, 9))
        self.assertIsNone(meet((4, 1), (6, 2)))
        self.assertEqual(meet((2, 1), (3, 2), (5, 4)), (30, 29))
        self.assertIsNone(meet((2, 1), (3, 2), (6, 4)))
        self.assertIsNone(meet((0, 3), (0, 4)))
        self.assertEqual(meet((0, -3), (2, 1), (1, 0)), (0, -3))
        self.assertIsNone(meet((0, -3), (2, 0)))
        self.assertIsNone(meet((2, 0), (0, -3)))

    def test_all_pairs_and_triples(self):
        for count in (2, 3):
            for some in product(FEW, repeat=count):
                found = meet(*some)
                right = [x for x in NUMBERS if all(is_in(x, one) for one in some)]
                if found is None:
                    self.assertEqual(right, [])
                else:
                    self.assertTrue(is_right(found))
                    self.assertEqual(right, [x for x in NUMBERS if is_in(x, found)])


if __name__ == "__main__":
    unittest.main()
