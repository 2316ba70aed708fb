"""Points 8, 13 to 20, 25 and 66 to 76: the kind wholes."""

import random
import unittest
from fractions import Fraction
from itertools import product
from math import gcd
from time import perf_counter

from shadowlinks.errors import NoSolution
from shadowlinks.kinds import Kind
from shadowlinks.shadows import complete, satisfies, shadow, solve
from shadowlinks.spreads import values_of
from shadowlinks.wholes import Wholes
from tests.kindchecks import KindChecks
from tests.wholecases import EXAMPLE, THEORIES, XY, eq, is_multiple, is_shown, made_theories, mod, terms

KIND = Wholes()
MORE = (*THEORIES, *made_theories(3, 60))


def is_satisfiable(theory):
    """By trying, where the normal form promises a solution, and by its certificate, where it promises none."""
    if solve(KIND, theory) is not None:
        return True
    return not is_shown(theory, eq(1), KIND.certificate(theory, eq(1)))


def some_questions(theory, count, seed):
    maker = random.Random(seed)
    found = [eq(1), eq(0), mod(3, 3), mod(1, 2)]
    for _ in range(count if theory[0] else 0):
        chosen = sorted(maker.sample(theory[0], maker.randrange(1, len(theory[0]) + 1)))
        one = tuple((name, maker.choice((-2, -1, 1, 1, 3, 6))) for name in chosen)
        found.append((one, maker.choice((0, 1, 2, 3, 4, 6)), maker.randrange(-3, 4)))
    for one, modulus, rest in theory[1][:3]:
        found.append((one, modulus, rest + maker.randrange(2)))
        found.append((tuple((name, 2 * number) for name, number in one), 2 * modulus, 2 * rest))
    return found


class WholesChecks(KindChecks, unittest.TestCase):
    kind = KIND

    def theories(self):
        return THEORIES

    def questions(self, theory):
        return some_questions(theory, 6, 2)

    def retold(self, theory):
        names, constraints = theory
        yield names, constraints[::-1]
        yield names, (*constraints, *constraints, eq(0), mod(5, 1))
        yield names, tuple((tuple((n, -2 * c) for n, c in one), 2 * m, -2 * rest) for one, m, rest in constraints)
        yield names, tuple((one, m, rest + 3 * m) for one, m, rest in constraints)
        moved = [(one, m, rest) for one, m, rest in constraints if m == 0]
        yield names, (*constraints, *[(one, 7, rest) for one, _, rest in moved])

    def other_value(self, theory, solution):
        return {**solution, theory[0][-1]: solution[theory[0][-1]] + 12} if theory[0] else None


class ConstraintTest(unittest.TestCase):
    def test_kind(self):
        self.assertIsInstance(KIND, Kind)
        self.assertEqual(Wholes.WORD, "wholes")
        self.assertEqual(KIND.contradiction(), ((), 0, 1))

    def test_names(self):
        self.assertEqual(KIND.names_in(eq(0)), ())
        self.assertEqual(KIND.names_in(((("y", 2), ("x", -1)), 3, 0)), ("y", "x"))

    def test_valid(self):
        for constraint in (eq(-3), mod(99, 1), mod(-99, 12, x=1), eq(0, x=-9, y=9), ((("y.z", 1),), 5, 0)):
            self.assertIs(KIND.is_valid(("x", "y", "y.z"), constraint), True)
        self.assertIs(KIND.is_valid((), mod(4, 2)), True)

    def test_invalid(self):
        for constraint in (
            eq(5, x=0), mod(5, 3, x=1, y=0), ((("y", 1), ("x", 1)), 2, 1), ((("x", 1), ("x", 1)), 0, 1),
            mod(0, -1), mod(0, -5, x=1), eq(1, z=1), mod(1, 4, x=1, z=1),
        ):
            self.assertIs(KIND.is_valid(XY, constraint), False, constraint)
        self.assertIs(KIND.is_valid((), eq(0, x=1)), False)

    def test_holds(self):
        for x, y, modulus, rest in product(range(-3, 4), (0, 5), range(5), range(-4, 5)):
            value = 2 * x - y
            wanted = value == rest if modulus == 0 else (value - rest) % modulus == 0
            self.assertIs(KIND.holds(mod(rest, modulus, x=2, y=-1), {"x": x, "y": y, "z": 1}), wanted)
        self.assertIs(KIND.holds(eq(0), {}), True)
        self.assertIs(KIND.holds(eq(1), {}), False)
        self.assertIs(KIND.holds(mod(6, 3), {}), True)
        self.assertIs(KIND.holds(mod(7, 3), {}), False)
        self.assertIs(KIND.holds(mod(7, 1), {}), True)

    def test_rename(self):
        theory = (XY, (mod(9, 4, x=2, y=-1), eq(0), eq(-3, y=1)))
        self.assertEqual(KIND.rename(theory, {"x": "y", "y": "x"}), (XY, (mod(9, 4, x=-1, y=2), eq(0), eq(-3, x=1))))
        wanted = (("y", "z"), (mod(9, 4, y=-1, z=2), eq(0), eq(-3, y=1)))
        self.assertEqual(KIND.rename(theory, {"x": "z"}), wanted)

    def test_pin(self):
        wanted = (("x", "y", "z"), (eq(-1, x=1), eq(0, y=1), eq(7, z=1)))
        self.assertEqual(KIND.pin(("x", "y", "z"), {"y": 0, "x": -1, "z": 7}), wanted)
        self.assertEqual(KIND.pin((), {}), ((), ()))


class NormalTest(unittest.TestCase):
    def test_the_example(self):
        self.assertEqual(KIND.normal(EXAMPLE), (XY, (eq(0, x=2, y=-1), mod(0, 2, y=1))))
        self.assertEqual(KIND.normal(KIND.eliminate(EXAMPLE, "x")), (("y",), (mod(0, 2, y=1),)))
        self.assertEqual(KIND.normal(KIND.eliminate(EXAMPLE, "y")), (("x",), ()))

    def test_forms(self):
        for constraints, wanted in (
            ((), ()),
            ((mod(7, 1, x=3, y=2), eq(0), mod(4, 2)), ()),
            ((eq(6, x=-4, y=2),), (eq(-3, x=2, y=-1), mod(1, 2, y=1))),
            ((eq(6, x=2),), (eq(3, x=1),)),
            ((mod(1, 5, x=2),), (mod(3, 5, x=1),)),
            ((mod(2, 4, x=2),), (mod(1, 2, x=1),)),
            ((mod(-1, 4, x=1), mod(9, 6, x=1)), (mod(3, 12, x=1),)),
            ((mod(1, 6, x=1, y=1),), (mod(1, 6, x=1, y=1),)),
            ((mod(-1, 6, x=-1, y=-1),), (mod(1, 6, x=1, y=1),)),
            ((mod(1, 6, x=1, y=8), mod(0, 2, y=1)), (mod(1, 6, x=1, y=2), mod(0, 2, y=1))),
            ((mod(1, 6, x=2, y=3),), (mod(2, 3, x=1), mod(1, 2, y=1))),
            ((mod(1, 2, x=1, y=1), mod(0, 3, x=1, y=2)), (mod(3, 6, x=1, y=5),)),
            ((mod(0, 4, x=2, y=1),), (mod(0, 4, x=2, y=1), mod(0, 2, y=1))),
            ((eq(3, x=1, y=2), mod(0, 3, x=1)), (eq(3, x=1, y=2), mod(0, 3, y=1))),
            ((eq(1), mod(3, 6, x=3)), (eq(1),)),
            ((eq(2, y=1), mod(1, 3, x=1)), (mod(1, 3, x=1), eq(2, y=1))),
            ((eq(2, y=1), eq(5, x=1)), (eq(5, x=1), eq(2, y=1))),
        ):
            for told in (constraints, constraints[::-1]):
                self.assertEqual(KIND.normal((XY, told)), (XY, wanted), told)

    def test_unsatisfiable(self):
        found = 0
        for theory in MORE:
            if not is_satisfiable(theory):
                found += 1
                self.assertEqual(KIND.normal(theory), (theory[0], (eq(1),)))
                self.assertIsNone(solve(KIND, theory))
        self.assertGreater(found, 10)

    def test_equations_and_congruences(self):
        for theory in MORE:
            if is_satisfiable(theory):
                names, found = KIND.normal(theory)
                self.assertEqual(list(found), sorted(found))
                bound = [one[0][0] for one, modulus, _ in found if modulus == 0]
                firsts = [one[0][0] for one, _, _ in found]
                self.assertEqual(len(firsts), len(set(firsts)))
                least = {one[0][0]: Fraction(one[0][1], modulus) for one, modulus, _ in found if modulus}
                for constraint in found:
                    one, modulus, rest = constraint
                    self.assertTrue(is_shown(theory, constraint, KIND.certificate(theory, constraint)))
                    numbers = [number for _, number in one]
                    self.assertGreater(numbers[0], 0)
                    self.assertFalse(any(name in bound for name, _ in one[1:]))
                    if modulus == 0:
                        self.assertEqual(gcd(*numbers), 1)
                    else:
                        self.assertNotIn(one[0][0], bound)
                        self.assertTrue(modulus >= 2 and 0 <= rest < modulus and gcd(rest, modulus, *numbers) == 1)
                        self.assertEqual(Fraction(numbers[0], modulus).numerator, 1)
                        for name, number in one[1:]:
                            self.assertTrue(0 < Fraction(number, modulus) < least.get(name, 1))
                for constraint in theory[1]:
                    shown = KIND.certificate((names, found), constraint)
                    self.assertTrue(is_shown((names, found), constraint, shown))

    def test_eliminating_keeps_just_what_follows(self):
        for theory in MORE:
            for name in theory[0]:
                less = KIND.eliminate(theory, name)
                for values in product(range(-2, 4), repeat=len(less[0])):
                    point = dict(zip(less[0], values))
                    fits = satisfies(KIND, less, point)
                    pinned = KIND.pin(less[0], point)
                    self.assertEqual(fits, solve(KIND, (theory[0], (*theory[1], *pinned[1]))) is not None)


class SolveTest(unittest.TestCase):
    def test_lift(self):
        for constraints, value in (
            ((), 0), ((mod(-1, 5, x=1),), 4), ((mod(5, 5, x=1),), 0), ((eq(-6, x=2),), -3), ((eq(6, x=2),), 3),
            ((mod(1, 4, x=1), mod(3, 6, x=1)), 9), ((eq(5, x=1, y=1), mod(1, 2, x=1)), -5), ((mod(0, 3, x=1, y=1),), 2),
            ((mod(0, 4, x=6, y=2),), 0), ((mod(9, 1, x=7),), 0), ((mod(10, 3, y=1),), 0), ((mod(2, 4, x=-2),), 1),
        ):
            self.assertEqual(KIND.lift((XY, constraints), "x", {"y": 10}), value, constraints)

    def test_lift_without_a_value(self):
        for constraints in (
            (mod(1, 2, x=2),), (eq(5, x=2),), (eq(1),), (mod(1, 3),), (eq(9, y=1),), (mod(0, 3, y=1),),
            (mod(0, 2, x=1), mod(1, 4, x=1)), (eq(1, x=1), eq(2, x=1)), (eq(3, x=1), mod(0, 2, x=1)),
        ):
            with self.assertRaises(NoSolution):
                KIND.lift((XY, constraints), "x", {"y": 10})

    def test_first_solutions(self):
        for theory in MORE:
            found = solve(KIND, theory)
            if found is not None:
                self.assertIs(satisfies(KIND, theory, found), True)
                for name in theory[0][:1]:
                    self.assertEqual(found[name], values_of(theory, ((name, 1),))[1])

    def test_examples(self):
        self.assertEqual(solve(KIND, (XY, (eq(1, x=6, y=5),))), {"x": 1, "y": -1})
        theory = (XY, (eq(4, x=6, y=10), mod(1, 3, x=1, y=1)))
        self.assertEqual(solve(KIND, theory), {"x": 9, "y": -5})
        self.assertEqual(complete(KIND, EXAMPLE, {"y": -6}), {"x": -3, "y": -6})
        self.assertEqual(complete(KIND, EXAMPLE, {"x": 2, "y": 4}), {"x": 2, "y": 4})
        for given in ({"y": 3}, {"x": 2, "y": 5}):
            with self.assertRaises(NoSolution):
                complete(KIND, EXAMPLE, given)
        self.assertEqual(shadow(KIND, theory, shown=["x"]), (("x",), (mod(9, 15, x=1),)))

    def test_ground(self):
        self.assertEqual(KIND.ground(((), ())), {})
        self.assertEqual(KIND.ground(((), (eq(0), mod(6, 2)))), {})
        self.assertIsNone(KIND.ground(((), (eq(0), mod(7, 2)))))


class CertificateTest(unittest.TestCase):
    def test_certificates_are_right(self):
        for theory in MORE:
            for constraint in some_questions(theory, 5, 4):
                found = KIND.certificate(theory, constraint)
                counterexample = KIND.counterexample(theory, constraint)
                self.assertEqual(found is None, counterexample is not None, (theory, constraint))
                if found is None:
                    self.assertIs(satisfies(KIND, theory, counterexample), True)
                    self.assertIs(KIND.holds(constraint, counterexample), False)
                else:
                    self.assertTrue(is_shown(theory, constraint, found), (theory, constraint, found))

    def test_accepts_what_is_right_and_nothing_else(self):
        maker = random.Random(5)
        right = 0
        for theory in MORE:
            for constraint in some_questions(theory, 4, 6):
                for _ in range(15):
                    weights = tuple(maker.choice((0, 0, 1, -1, 2, 3, 4, 6)) for _ in theory[1])
                    certificate = (maker.choice((0, 0, 1, 2, 3, 4, 6, 12)), maker.choice((0, 1, 1, 2)), weights)
                    wanted = is_shown(theory, constraint, certificate)
                    self.assertIs(KIND.accepts(theory, constraint, certificate), wanted)
                    right += wanted
        self.assertGreater(right, 100)

    def check(self, theory, constraint, rows):
        for certificate, wanted in rows:
            self.assertIs(KIND.accepts(theory, constraint, certificate), wanted, (constraint, certificate))

    def test_the_divisor_0(self):
        theory = (XY, (eq(1, x=2, y=1), eq(3, y=1), mod(0, 4, x=1)))
        self.check(theory, eq(-2, x=2), (
            ((0, 1, (1, -1, 0)), True), ((0, 2, (2, -2, 0)), True), ((0, 2, (1, -1, 0)), False), ((0, 0, (1, -1, 0)), False),
            ((0, 1, (1, 0, 0)), False), ((0, 1, (0, 0, 2)), False), ((0, 1, (1, -1)), False), ((0, 1, (1, -1, 0, 0)), False),
            ((0, -1, (-1, 1, 0)), False), ((1, 1, (1, -1, 0)), False), ((0, 1, (1, -1, 4)), False),
        ))
        self.check(theory, eq(-1, x=1), (((0, 2, (1, -1, 0)), True), ((0, 1, (1, -1, 0)), False)))
        self.check(theory, eq(-4, x=2), (((0, 1, (1, -1, 0)), False),))
        # An equation shows a congruence, too.
        self.check(theory, mod(-2, 5, x=2), (((0, 1, (1, -1, 0)), True), ((5, 1, (1, -1, 0)), True)))
        self.check(theory, mod(3, 5, x=2), (((0, 1, (1, -1, 0)), False), ((5, 1, (1, -1, 0)), True)))

    def test_the_divisor_of_a_congruence(self):
        theory = (XY, (mod(1, 4, x=1), mod(2, 6, y=1), eq(5, x=3)))
        self.check(theory, mod(1, 2, x=1), (
            ((2, 1, (1, 0, 0)), True), ((4, 2, (2, 0, 0)), True), ((2, 1, (-1, 0, 0)), True), ((2, 1, (3, 0, 0)), True),
            ((2, 1, (0, 0, 1)), True), ((2, 1, (1, 1, 0)), False), ((2, 1, (0, 0, 0)), False), ((4, 1, (1, 0, 0)), False),
            ((2, 2, (1, 0, 0)), False), ((1, 1, (1, 0, 0)), False), ((-2, -1, (1, 0, 0)), False), ((2, 1, (1, 0)), False),
            ((-2, 1, (1, 0, 0)), False), ((2, -1, (1, 0, 0)), False),
        ))
        # The weight times the modulus is a multiple of the divisor.
        self.check(theory, mod(1, 8, x=1), (((8, 1, (1, 0, 0)), False),))
        self.check(theory, mod(2, 8, x=2), (((8, 1, (2, 0, 0)), True), ((8, 1, (6, 0, 0)), False)))
        self.check(theory, mod(0, 2, x=1), (((2, 1, (1, 0, 0)), False),))
        self.check(theory, mod(7, 1, x=5, y=1), (((1, 1, (0, 0, 0)), True), ((2, 1, (0, 0, 0)), False)))

    def test_the_scale_0(self):
        theory = (XY, (mod(1, 4, x=1), mod(0, 6, x=1), eq(1, y=2)))
        for constraint in (eq(1), mod(0, 5, x=3), eq(2, y=1)):
            self.check(theory, constraint, (
                ((2, 0, (1, 1, 0)), True), ((2, 0, (0, 0, 1)), True), ((2, 0, (1, -1, 0)), True), ((2, 0, (1, 0, 0)), False),
                ((2, 0, (1, 1, 1)), False), ((0, 0, (1, -1, 0)), False), ((1, 0, (1, 1, 0)), False),
                ((2, 0, (0, 0, 0)), False), ((4, 0, (1, -1, 0)), False), ((2, 0, (1, 1)), False), ((3, 0, (0, 0, 1)), False),
                ((-2, 0, (1, 1, 0)), False),
            ))

    def test_no_constraints(self):
        self.check(((), ()), eq(0), (((0, 1, ()), True), ((0, 0, ()), False), ((1, 1, ()), False), ((1, 0, ()), False)))
        self.check(((), ()), eq(1), (((0, 1, ()), False), ((2, 0, ()), False)))
        self.check(((), ()), mod(6, 3), (((3, 1, ()), True), ((0, 1, ()), False)))
        self.assertEqual(KIND.counterexample(((), ()), mod(1, 2)), {})
        self.assertIsNone(KIND.certificate(((), ()), mod(1, 2)))

    def test_counterexamples(self):
        for constraint in (mod(0, 4, y=1), eq(0, x=1), mod(0, 2, x=1), mod(1, 2, y=1), eq(0, x=1, y=-1)):
            found = KIND.counterexample(EXAMPLE, constraint)
            self.assertIs(satisfies(KIND, EXAMPLE, found), True)
            self.assertIs(KIND.holds(constraint, found), False)
        for constraint in (mod(0, 2, y=1), mod(4, 2, y=3), eq(0, x=-4, y=2), mod(0, 3, x=1, y=1)):
            self.assertIsNone(KIND.counterexample(EXAMPLE, constraint))
        self.assertIsNone(KIND.counterexample((XY, (eq(1),)), eq(1)))


class QuickTest(unittest.TestCase):
    def test_limits(self):
        maker = random.Random(9)
        start = perf_counter()
        for names, count in ((("a", "b", "c", "d"), 8), (tuple("abcdefghijk"), 32)):
            for _ in range(4):
                values = {name: maker.randrange(-9, 10) for name in names}
                constraints = []
                for _ in range(count):
                    one = tuple((name, maker.randrange(1, 10)) for name in sorted(maker.sample(names, 4)))
                    rest = sum(number * values[name] for name, number in one)
                    constraints.append((one, maker.choice((0, 5, 7, 8, 9, 11, 12)), rest))
                theory = (names, tuple(constraints))
                found = solve(KIND, theory)
                self.assertIs(satisfies(KIND, theory, found), True)
                self.assertIs(satisfies(KIND, KIND.normal(theory), found), True)
                self.assertIsNone(KIND.counterexample(theory, constraints[0]))
                shown = KIND.certificate(theory, constraints[-1])
                self.assertIs(KIND.accepts(theory, constraints[-1], shown), True)
        self.assertLess(perf_counter() - start, 5)


if __name__ == "__main__":
    unittest.main()
