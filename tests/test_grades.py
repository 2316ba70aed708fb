"""Points 23, 24, 57 to 59, 69 to 72, 102 and 103: grades of the kinds lines and wholes."""

import copy
import random
import unittest
from itertools import combinations
from time import perf_counter

from shadowlinks.linegrades import two_names
from shadowlinks.lines import Lines
from shadowlinks.shadows import follows, shadow, solve
from shadowlinks.theories import join
from shadowlinks.wholegrades import equations_only
from shadowlinks.wholes import Wholes
from tests import linecases, wholecases
from tests.linecases import eq, le
from tests.wholecases import eq as whole_eq
from tests.wholecases import mod

XYZ = ("x", "y", "z")


def enough_pairs(theory):
    """Whether the shadows over all pairs of names, together, have the same solutions as the theory."""
    names = theory[0]
    pairs = list(combinations(names, 2)) or [names]
    kind = Lines()
    together = join([(names, ()), *[shadow(kind, theory, shown=pair) for pair in pairs]])
    return kind.normal(together) == kind.normal(theory)


def enough_equations(theory):
    """Whether each constraint follows from the equations of the normal form, the solutions from one to the next."""
    kind = Wholes()
    names, constraints = kind.normal(theory)
    equations = (names, tuple(one for one in constraints if one[1] == 0))
    return all(follows(kind, equations, one) for one in theory[1])


class TwoNamesTest(unittest.TestCase):
    def test_enough(self):
        for constraints in (
            (), (le(3, x=1),), (le(3, x=1, y=-2), le(0, y=5, z=1)), (eq(3, x=1, y=2),), (eq(0, x=1, z=1), eq(1, y=1)),
            # The sum of the three names tells nothing more.
            (le(1, x=1), le(1, y=1), le(1, z=1), le(3, x=1, y=1, z=1)),
            # Two names are equal to numbers.
            (eq(6, x=1, y=1, z=1), eq(2, y=1), le(9, x=1)),
            (eq(3, x=1, y=1, z=1), eq(1, x=1, y=1, z=-1)),
            # Both sums of three names, added and subtracted, are sums of two.
            (eq(4, x=1, y=1, z=1), eq(2, x=1, y=-1, z=1)),
        ):
            self.assertIs(two_names((XYZ, constraints)), True, constraints)

    def test_not_enough(self):
        for constraints in (
            (le(3, x=1, y=1, z=1),), (eq(3, x=1, y=1, z=1),), (le(3, x=1, y=-2, z=4), eq(1, x=1, y=1)),
            (le(1, x=1), le(1, y=1), le(1, z=1), le(2, x=1, y=1, z=1)), (eq(0, x=1, y=-1, z=-1), le(3, y=1)),
        ):
            wanted = any(len(one[0]) > 2 for one in Lines().normal((XYZ, constraints))[1])
            self.assertIs(two_names((XYZ, constraints)), not wanted)
            self.assertIs(two_names((XYZ, constraints)), enough_pairs((XYZ, constraints)))
        self.assertIs(two_names((XYZ, (le(3, x=1, y=1, z=1),))), False)
        self.assertIs(two_names((XYZ, (eq(3, x=1, y=1, z=1),))), False)

    def test_edges(self):
        self.assertIs(two_names(((), ())), True)
        self.assertIs(two_names(((), (le(-1),))), True)
        self.assertIs(two_names((XYZ, (le(3, x=1, y=1, z=1), le(-4, x=-1, y=-1, z=-1)))), True)

    def test_shadows_over_pairs(self):
        found = set()
        for theory in (*linecases.THEORIES, *linecases.made_theories(51, 60, 4), *linecases.cut_boxes(52, 20)):
            kept = copy.deepcopy(theory)
            wanted = enough_pairs(theory)
            self.assertIs(two_names(theory), wanted, theory)
            self.assertEqual(theory, kept)
            found.add(wanted)
        self.assertEqual(found, {True, False})


class EquationsTest(unittest.TestCase):
    def test_enough(self):
        for constraints in (
            (), (whole_eq(3, x=1),), (whole_eq(0, x=2, y=-1),), (whole_eq(1, x=2, y=3, z=5),), (mod(4, 1, x=3),),
            (mod(0, 2, x=4),), (whole_eq(6, x=2), mod(1, 2, x=1)), (whole_eq(0, x=3, y=-1), mod(0, 3, y=1)), (mod(8, 4),),
        ):
            self.assertIs(equations_only((XYZ, constraints)), True, constraints)

    def test_not_enough(self):
        for constraints in (
            (mod(1, 2, x=1),), (mod(0, 3, x=1, y=1),), (whole_eq(1, x=1), mod(0, 2, y=1)),
            (whole_eq(0, x=2, y=-1), mod(0, 2, x=1)), (whole_eq(0, x=2, y=-1), mod(0, 4, y=1)),
        ):
            self.assertIs(equations_only((XYZ, constraints)), False, constraints)

    def test_edges(self):
        self.assertIs(equations_only(((), ())), True)
        self.assertIs(equations_only(((), (whole_eq(1),))), True)
        self.assertIs(equations_only(((), (mod(1, 4),))), True)
        self.assertIs(equations_only((("x",), (whole_eq(7, x=2),))), True)
        self.assertIs(equations_only((("x",), (mod(1, 4, x=2),))), True)
        self.assertIs(equations_only((("x",), (mod(1, 4, x=1), mod(2, 6, x=1)))), True)

    def test_what_follows_from_the_equations(self):
        found = set()
        for theory in (*wholecases.THEORIES, *wholecases.made_theories(53, 80, 4)):
            kept = copy.deepcopy(theory)
            wanted = enough_equations(theory)
            self.assertIs(equations_only(theory), wanted, theory)
            self.assertEqual(theory, kept)
            found.add((wanted, solve(Wholes(), theory) is None))
        self.assertEqual(found, {(True, True), (True, False), (False, False)})


class QuickTest(unittest.TestCase):
    def test_limits(self):
        maker = random.Random(54)
        names = tuple("wxyz")
        for _ in range(10):
            signs = [maker.choice(("<=", "<=", "=")) for _ in range(8)]
            sums = [tuple((name, maker.choice((-9, -7, -4, 3, 5, 8))) for name in names) for _ in range(8)]
            bounds = [maker.randrange(-99, 100) for _ in range(8)]
            moduli = [maker.choice((0, 5, 9, 11, 12)) for _ in range(8)]
            for work, theory in (
                (two_names, (names, tuple(zip(sums, signs, bounds)))),
                (equations_only, (names, tuple(zip(sums, moduli, bounds)))),
            ):
                start = perf_counter()
                work(theory)
                self.assertLess(perf_counter() - start, 2)


if __name__ == "__main__":
    unittest.main()
