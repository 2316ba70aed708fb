"""Points 66 and 67: the values of sums, and the solutions of theories of the kind wholes within bounds."""

import copy
import unittest
from itertools import product
from time import perf_counter

from shadowlinks.errors import NoSolution
from shadowlinks.progressions import is_in
from shadowlinks.shadows import satisfies, solve
from shadowlinks.spreads import solutions_within, values_of
from shadowlinks.wholes import Wholes
from tests.wholecases import EXAMPLE, THEORIES, XY, eq, made_theories, mod, terms

KIND = Wholes()
MORE = (*THEORIES, *made_theories(2, 40))


def boxed(theory, low, high):
    points = [dict(zip(theory[0], values)) for values in product(range(low, high + 1), repeat=len(theory[0]))]
    return [point for point in points if satisfies(KIND, theory, point)]


class ValuesTest(unittest.TestCase):
    def test_examples(self):
        self.assertEqual(values_of(EXAMPLE, terms(y=1)), (2, 0))
        self.assertEqual(values_of(EXAMPLE, terms(x=1)), (1, 0))
        self.assertEqual(values_of(EXAMPLE, terms(x=2, y=-1)), (0, 0))
        self.assertEqual(values_of(EXAMPLE, terms(x=1, y=1)), (3, 0))
        self.assertEqual(values_of(EXAMPLE, ()), (0, 0))
        self.assertEqual(values_of((XY, (mod(3, 4, x=1), eq(-5, y=1))), terms(x=2, y=1)), (8, 1))
        self.assertEqual(values_of((XY, ()), terms(x=6, y=-4)), (2, 0))
        self.assertEqual(values_of((("x",), (eq(-6, x=2),)), terms(x=5)), (0, -15))
        self.assertEqual(values_of(((), ()), ()), (0, 0))

    def test_no_solution(self):
        found = 0
        for theory in MORE:
            if solve(KIND, theory) is None:
                found += 1
                for one in ((), *[((name, 2),) for name in theory[0]]):
                    with self.assertRaises(NoSolution):
                        values_of(theory, one)
        self.assertGreater(found, 5)

    def test_each_value_and_no_other(self):
        for theory in MORE:
            if solve(KIND, theory) is not None:
                names, constraints = theory
                for numbers in product((-2, 0, 3), repeat=len(names)):
                    one = tuple((name, number) for name, number in zip(names, numbers) if number)
                    modulus, rest = values_of(theory, one)
                    self.assertTrue(modulus == 0 or 0 <= rest < modulus)
                    for value in (rest - modulus, rest, rest + modulus, rest + 1, rest - 1, rest + 2):
                        asked = (names, (*constraints, (one, 0, value)))
                        self.assertEqual(solve(KIND, asked) is not None, is_in(value, (modulus, rest)))


class WithinTest(unittest.TestCase):
    def test_examples(self):
        wanted = [{"x": x, "y": 2 * x} for x in (-1, 0, 1, 2)]
        self.assertEqual(list(solutions_within(EXAMPLE, low=-3, high=4)), wanted)
        theory = (("x",), (mod(2, 3, x=1),))
        self.assertEqual(list(solutions_within(theory, low=-4, high=5)), [{"x": x} for x in (-4, -1, 2, 5)])
        self.assertEqual(list(solutions_within(theory, low=5, high=5)), [{"x": 5}])
        self.assertEqual(list(solutions_within(theory, low=6, high=5)), [])
        self.assertEqual(list(solutions_within(theory, low=6, high=7)), [])
        theory = (("x",), (eq(10, x=2),))
        self.assertEqual(list(solutions_within(theory, low=5, high=9)), [{"x": 5}])
        self.assertEqual(list(solutions_within(theory, low=-9, high=5)), [{"x": 5}])
        self.assertEqual(list(solutions_within(theory, low=6, high=9)), [])
        self.assertEqual(list(solutions_within(theory, low=-9, high=4)), [])

    def test_without_names(self):
        for low, high in ((0, 0), (3, -3)):
            self.assertEqual(list(solutions_within(((), ()), low=low, high=high)), [{}])
            self.assertEqual(list(solutions_within(((), (eq(1),)), low=low, high=high)), [])

    def test_all_theories(self):
        for theory in MORE:
            for low, high in ((-4, 4), (0, 3), (-5, -2), (2, 1)):
                found = list(solutions_within(theory, low=low, high=high))
                self.assertEqual(found, boxed(theory, low, high))

    def test_new_dicts_and_arguments(self):
        theory = copy.deepcopy(EXAMPLE)
        for solution in solutions_within(theory, low=-3, high=4):
            solution["x"] = 99
        self.assertEqual(theory, EXAMPLE)
        found = list(solutions_within(theory, low=-3, high=4))
        self.assertEqual(len({id(solution) for solution in found}), 4)
        self.assertEqual(found, boxed(theory, -3, 4))
        values_of(theory, terms(x=1))
        self.assertEqual(theory, EXAMPLE)

    def test_quick_at_the_limits(self):
        names = ("a", "b", "c", "d")
        theory = (names, tuple((tuple((n, (at + k) % 9 + 1) for k, n in enumerate(names)), 12, at) for at in range(8)))
        start = perf_counter()
        self.assertEqual(list(solutions_within(theory, low=-3, high=3)), boxed(theory, -3, 3))
        self.assertEqual(len(list(solutions_within((names, ()), low=0, high=4))), 5 ** 4)
        values_of(theory, ((names[0], 9), (names[3], -9)))
        self.assertLess(perf_counter() - start, 3)


if __name__ == "__main__":
    unittest.main()
