"""Points 7, 13 to 20, 25 and 56 to 62 and 65: the kind lines."""

import random
import unittest
from fractions import Fraction
from math import gcd
from time import perf_counter

from shadowlinks.bounds import span
from shadowlinks.errors import NoSolution
from shadowlinks.kinds import Kind
from shadowlinks.lines import Lines
from shadowlinks.shadows import complete, satisfies, shadow, solve
from shadowlinks.theories import join
from tests.kindchecks import KindChecks
from tests.linecases import (
    EXAMPLE, THEORIES, cut_boxes, does_follow, eq, is_satisfiable, le, made_theories, meetings, negated, terms,
)

KIND = Lines()
MORE = (*THEORIES, *made_theories(3, 60))
XY = ("x", "y")


def some_questions(theory, count, seed):
    maker = random.Random(seed)
    found = [le(-1), eq(0), le(2), eq(1)]
    for _ in range(count if theory[0] else 0):
        chosen = sorted(maker.sample(theory[0], maker.randrange(1, len(theory[0]) + 1)))
        one = tuple((name, maker.choice((-2, -1, 1, 1, 3))) for name in chosen)
        found.append((one, maker.choice(("<=", "=")), maker.randrange(-4, 8)))
    for one, _, bound in theory[1][:3]:
        found.append((one, "<=", bound + maker.randrange(2)))
        found.append((one, "=", bound))
    return found


class LinesChecks(KindChecks, unittest.TestCase):
    kind = KIND

    def theories(self):
        return THEORIES

    def questions(self, theory):
        return some_questions(theory, 6, 2)

    def retold(self, theory):
        names, constraints = theory
        yield names, constraints[::-1]
        yield names, (*constraints, *constraints, le(0))
        yield names, tuple((tuple((n, 3 * c) for n, c in one), sign, 3 * bound) for one, sign, bound in constraints)
        above = [(one, "<=", bound) for one, _, bound in constraints]
        below = [(negated(one), "<=", -bound) for one, sign, bound in constraints if sign == "="]
        yield names, (*above, *below)
        yield names, (*constraints, *[(one, "<=", bound + 1) for one, _, bound in constraints])
        if not is_satisfiable(theory):
            yield names, (eq(1),)
            yield names, (*constraints, le(-7))

    def other_value(self, theory, solution):
        if not theory[0]:
            return None
        top, bottom = solution[theory[0][-1]]
        return {**solution, theory[0][-1]: (top + bottom, bottom)}


class ConstraintTest(unittest.TestCase):
    def test_kind(self):
        self.assertIsInstance(KIND, Kind)
        self.assertEqual(Lines.WORD, "lines")
        self.assertEqual(Lines.SIGNS, ("<=", "="))
        self.assertEqual(KIND.contradiction(), ((), "<=", -1))

    def test_names(self):
        self.assertEqual(KIND.names_in(eq(0)), ())
        self.assertEqual(KIND.names_in(((("y", 2), ("x", -1)), "<=", 0)), ("y", "x"))

    def test_valid(self):
        for constraint in (le(-3), eq(0), le(5, x=1), eq(-99, x=-9, y=9), ((("y.z", 1),), "=", 0)):
            self.assertIs(KIND.is_valid(("x", "y", "y.z"), constraint), True)
        self.assertIs(KIND.is_valid((), le(0)), True)

    def test_invalid(self):
        for constraint in (
            le(5, x=0), eq(5, x=1, y=0), ((("y", 1), ("x", 1)), "<=", 1), ((("x", 1), ("x", 1)), "<=", 1),
            (terms(x=1), "<", 1), (terms(x=1), ">=", 1), (terms(x=1), "", 1), (terms(x=1), "==", 1), ((), "", 0),
            ((), "<", 0), le(1, z=1), eq(1, x=1, z=1),
        ):
            self.assertIs(KIND.is_valid(XY, constraint), False, constraint)
        self.assertIs(KIND.is_valid((), eq(0, x=1)), False)

    def test_holds(self):
        values = {"x": (1, 2), "y": (-2, 3), "z": (9, 1)}
        for constraint in (
            le(1, x=1), eq(1, x=2), le(1, x=2), eq(0, x=4, y=3), le(0, x=4, y=3), eq(0), le(0), le(3), le(-2, y=3),
            le(-9, z=-1), eq(9, z=1),
        ):
            self.assertIs(KIND.holds(constraint, values), True, constraint)
        for constraint in (
            le(0, x=1), eq(1, x=1), eq(0, x=1), le(0, x=2), eq(2, x=2), eq(0, x=2), le(-1, x=4, y=3), le(-1), eq(1),
            eq(-1), le(-1, y=1), eq(10, z=1),
        ):
            self.assertIs(KIND.holds(constraint, values), False, constraint)

    def test_rename(self):
        theory = (XY, (le(4, x=2, y=-1), eq(0), eq(-3, y=1)))
        self.assertEqual(KIND.rename(theory, {"x": "y", "y": "x"}), (XY, (le(4, x=-1, y=2), eq(0), eq(-3, x=1))))
        wanted = (("y", "z"), (le(4, y=-1, z=2), eq(0), eq(-3, y=1)))
        self.assertEqual(KIND.rename(theory, {"x": "z"}), wanted)

    def test_pin(self):
        wanted = (("x", "y", "z"), (eq(-1, x=2), eq(0, y=1), eq(7, z=1)))
        self.assertEqual(KIND.pin(("x", "y", "z"), {"y": (0, 1), "x": (-1, 2), "z": (7, 1)}), wanted)
        self.assertEqual(KIND.pin((), {}), ((), ()))


class NormalTest(unittest.TestCase):
    def test_the_example(self):
        self.assertEqual(KIND.normal(EXAMPLE), (XY, (eq(4, x=1, y=1), le(-1, y=-1))))

    def test_forms(self):
        for constraints, wanted in (
            ((le(3, x=1), le(-3, x=-1)), (eq(3, x=1),)),
            ((le(6, x=4),), (le(3, x=2),)),
            ((le(3, x=2), le(7, x=4), le(9, x=6)), (le(3, x=2),)),
            ((eq(6, x=-4),), (eq(-3, x=2),)),
            ((eq(6, x=-4, y=2),), (eq(-3, x=2, y=-1),)),
            ((le(9, x=6, y=4), le(8, x=6, y=4)), (le(4, x=3, y=2),)),
            ((le(1, x=1), le(1, y=1), le(2, x=1, y=1)), (le(1, x=1), le(1, y=1))),
            ((le(1, x=1), le(1, y=1), le(1, x=1, y=1)), (le(1, x=1), le(1, x=1, y=1), le(1, y=1))),
            ((le(0, x=1), le(0, y=1), le(0, x=-1, y=-1)), (eq(0, x=1), eq(0, y=1))),
            ((eq(3, x=1), le(9, x=1, y=2)), (eq(3, x=1), le(3, y=1))),
            ((eq(3, x=3, y=6), le(5, x=1, y=1)), (eq(1, x=1, y=2), le(4, y=-1))),
            ((le(3), eq(0)), ()),
        ):
            for told in (constraints, constraints[::-1]):
                self.assertEqual(KIND.normal((XY, told)), (XY, tuple(sorted(wanted))))

    def test_bound_names(self):
        names = ("x", "y", "z")
        theory = (names, (eq(6, x=1, y=1, z=1), eq(2, x=1, y=-1), le(0, z=-1)))
        wanted = (names, (eq(8, x=2, z=1), eq(4, y=2, z=1), le(0, z=-1)))
        self.assertEqual(KIND.normal(theory), wanted)
        theory = (names, (le(1, y=1, z=1), le(-1, y=-1, z=-1), eq(5, x=1, y=1)))
        self.assertEqual(KIND.normal(theory), (names, (eq(4, x=1, z=-1), eq(1, y=1, z=1))))

    def test_unsatisfiable(self):
        for theory in MORE:
            self.assertEqual(KIND.normal(theory)[1] == (le(-1),), not is_satisfiable(theory))

    def test_boxes_with_cuts(self):
        for theory in cut_boxes(8, 40):
            names, found = KIND.normal(theory)
            points = meetings(theory)
            self.assertEqual(found == (le(-1),), points == [])
            for constraint in theory[1] if points else ():
                self.assertIsNotNone(KIND.certificate((names, found), constraint))
            for one, sign, bound in found if points else ():
                # Each constraint is met by enough of the corners, and by all of them exactly if it is an equation.
                rest = [sum(dict(one).get(name, 0) * value for name, value in zip(names, p)) - bound for p in points]
                self.assertEqual(max(rest), 0)
                self.assertEqual(min(rest) == 0, sign == "=")
            self.assertEqual(meetings((names, found)), points)

    def test_equations_and_inequalities(self):
        for theory in MORE:
            if is_satisfiable(theory):
                names, found = KIND.normal(theory)
                self.assertEqual(list(found), sorted(found))
                bound = [one[0][0] for one, sign, _ in found if sign == "="]
                self.assertEqual(len(bound), len(set(bound)))
                for at, (one, sign, limit) in enumerate(found):
                    self.assertTrue(does_follow(theory, found[at]))
                    self.assertEqual(gcd(limit, *[number for _, number in one]), 1)
                    if sign == "=":
                        self.assertGreater(one[0][1], 0)
                    others = one[1:] if sign == "=" else one
                    self.assertTrue(one and not any(name in bound for name, _ in others))
                    self.assertFalse(does_follow((names, (*found[:at], *found[at + 1:])), found[at]))
                    self.assertEqual(does_follow(theory, (one, "=", limit)), sign == "=")
                for constraint in theory[1]:
                    self.assertTrue(does_follow((names, found), constraint))


class ShadowTest(unittest.TestCase):
    def test_one_name_is_left_with_its_span(self):
        for theory in MORE:
            for name in theory[0] if is_satisfiable(theory) else ():
                low, high = span(theory, terms=((name, 1),))
                if low is not None and low == high:
                    wanted = [(((name, low[1]),), "=", low[0])]
                else:
                    ends = ((low, -1), (high, 1))
                    wanted = [(((name, s * end[1]),), "<=", s * end[0]) for end, s in ends if end is not None]
                self.assertEqual(shadow(KIND, theory, shown=[name]), ((name,), tuple(sorted(wanted))))

    def test_eliminating(self):
        self.assertEqual(KIND.normal(KIND.eliminate(EXAMPLE, "x")), (("y",), (le(-1, y=-1),)))
        theory = (("x", "y", "z"), (le(0, x=1, y=-1), le(0, y=1, z=-1), le(-2, x=-1)))
        self.assertEqual(KIND.normal(KIND.eliminate(theory, "y")), (("x", "z"), (le(-2, x=-1), le(0, x=1, z=-1))))
        self.assertEqual(KIND.normal(KIND.eliminate(theory, "x")), (("y", "z"), (le(-2, y=-1), le(0, y=1, z=-1))))
        self.assertEqual(KIND.eliminate((XY, ()), "x"), (("y",), ()))
        theory = (XY, (eq(1, x=2, y=3), le(1, x=1), le(1, x=-1)))
        self.assertEqual(KIND.normal(KIND.eliminate(theory, "x")), (("y",), (le(1, y=-3), le(1, y=1))))


class SolveTest(unittest.TestCase):
    def test_lift(self):
        for constraints, value in (
            ((le(3, x=2), le(1, x=-3)), (-1, 3)), ((le(3, x=2),), (3, 2)), ((), (0, 1)), ((eq(-5, x=2),), (-5, 2)),
            ((le(3, x=2, y=1),), (5, 4)), ((le(3, x=-2, y=1),), (-5, 4)), ((le(1, y=1),), (0, 1)),
            ((le(9, x=1), le(8, x=1)), (8, 1)), ((le(-1, x=-1), le(-2, x=-1), le(7, x=1)), (2, 1)),
            ((eq(1, x=1, y=1), le(5, x=1)), (1, 2)), ((le(4, x=4), le(-1, x=-1)), (1, 1)),
        ):
            self.assertEqual(KIND.lift((XY, constraints), "x", {"y": (1, 2)}), value, constraints)

    def test_lift_without_a_value(self):
        for constraints in (
            (le(2, x=1), le(-3, x=-1)), (le(-1),), (le(0, y=1),), (eq(1, x=1), eq(2, x=1)), (eq(1, x=1), le(0, x=1)),
            (eq(1, y=1),), (eq(1, x=1), le(-2, x=-1)),
        ):
            with self.assertRaises(NoSolution):
                KIND.lift((XY, constraints), "x", {"y": (1, 2)})

    def test_first_solutions(self):
        for theory in MORE:
            found = solve(KIND, theory)
            self.assertEqual(found is not None, is_satisfiable(theory))
            if found is not None:
                self.assertIs(satisfies(KIND, theory, found), True)
                for name, value in found.items():
                    self.assertEqual(Fraction(*value), Fraction(value[0], value[1]))
                    self.assertEqual((gcd(*value), value[1] > 0), (1, True))
                for name in theory[0][:1]:
                    low, high = span(theory, terms=((name, 1),))
                    self.assertEqual(found[name], low or high or (0, 1))

    def test_completing(self):
        self.assertEqual(solve(KIND, EXAMPLE), {"x": (3, 1), "y": (1, 1)})
        self.assertEqual(complete(KIND, EXAMPLE, {"y": (3, 2)}), {"x": (5, 2), "y": (3, 2)})
        for given in ({"y": (1, 2)}, {"x": (4, 1)}, {"x": (3, 1), "y": (2, 1)}):
            with self.assertRaises(NoSolution):
                complete(KIND, EXAMPLE, given)

    def test_ground(self):
        self.assertEqual(KIND.ground(((), ())), {})
        self.assertEqual(KIND.ground(((), (le(0), eq(0)))), {})
        self.assertIsNone(KIND.ground(((), (le(0), eq(1)))))


class CertificateTest(unittest.TestCase):
    def test_exactly_what_follows(self):
        for theory in MORE:
            for constraint in some_questions(theory, 5, 4):
                wanted = does_follow(theory, constraint)
                found = KIND.certificate(theory, constraint)
                self.assertEqual(found is not None, wanted, (theory, constraint))
                self.assertEqual(KIND.counterexample(theory, constraint) is None, wanted)
                if wanted:
                    self.assertEqual(len(found), 1 if constraint[1] == "<=" else 2)
                    self.assertIs(KIND.accepts(theory, constraint, found), True)

    def check(self, theory, constraint, rows):
        for certificate, wanted in rows:
            self.assertIs(KIND.accepts(theory, constraint, certificate), wanted, (constraint, certificate))

    def test_inequalities(self):
        theory = (XY, (le(3, x=1), le(4, x=-1, y=1), eq(2, y=1)))
        self.check(theory, le(7, y=1), (
            (((1, (1, 1, 0)),), True), (((2, (2, 2, 0)),), True), (((1, (0, 0, 1)),), True), (((2, (1, 1, 1)),), True),
            (((1, (1, 0, 0)),), False), (((1, (1, 1, 1)),), False), (((2, (1, 1, 0)),), False), ((), False),
            (((1, (1, 1)),), False), (((1, (1, 1, 0, 0)),), False), (((1, ()),), False), (((-1, (1, 1, 0)),), False),
            (((-1, (-1, -1, 0)),), False), (((0, (1, 1, 0)),), False), (((0, (0, 0, 0)),), False),
            (((1, (1, 1, 0)), (1, (1, 1, 0))), False),
        ))
        self.check(theory, le(6, y=1), ((((1, (1, 1, 0)),), False), (((1, (0, 0, 1)),), True)))
        # The weight at an equation may be negative, the one at an inequality may not.
        self.check(theory, le(1, x=1, y=-1), ((((1, (1, 0, -1)),), True), (((1, (2, 1, -2)),), False)))
        self.check(theory, le(99, x=-1), ((((1, (-1, 0, 0)),), False), (((1, (0, 1, -1)),), True)))
        self.check(theory, le(1, x=-1), ((((1, (0, 1, -1)),), False),))
        self.check(theory, le(1, y=1), ((((-1, (0, 0, -1)),), False), (((-2, (0, 0, -2)),), False)))
        self.check(theory, le(2, y=1), ((((-1, (0, 0, -1)),), False), (((1, (0, 0, 1)),), True)))

    def test_equations(self):
        theory = (XY, (le(3, x=1), le(-3, x=-1), eq(2, y=2)))
        first, second = (1, (1, 0, 0)), (1, (0, 1, 0))
        self.check(theory, eq(3, x=1), (
            ((first, second), True), ((second, first), False), ((first, first), False), ((first,), False),
            ((first, second, second), False), ((), False), (((2, (2, 0, 0)), (3, (0, 3, 0))), True),
        ))
        self.check(theory, eq(1, y=1), (
            (((2, (0, 0, 1)), (2, (0, 0, -1))), True), (((2, (0, 0, 1)), (2, (0, 0, 1))), False),
            (((2, (0, 0, 1)), (-2, (0, 0, 1))), False),
        ))
        self.check(theory, eq(2, x=1), (((first, second), False),))

    def test_no_solution_is_shown_by_the_scale_0(self):
        theory = (XY, (le(3, x=1), le(-4, x=-1), eq(0, y=1)))
        shown, other = (0, (1, 1, 0)), (0, (5, 5, 0))
        self.check(theory, le(-1), (((shown,), True), ((other,), True), (((1, (1, 1, 0)),), True)))
        self.check(theory, le(-99, y=1), (((shown,), True), (((1, (1, 1, 0)),), False), (((0, (1, 1, 1)),), False)))
        self.check(theory, eq(5, x=1), (((shown, shown), True), ((shown, other), True), ((shown,), False)))
        loose = (XY, (le(3, x=1), le(-3, x=-1)))
        self.check(loose, le(-1), ((((0, (1, 1)),), False), (((0, (0, 0)),), False), (((1, (1, 1)),), False)))
        self.check(loose, le(0), ((((0, (1, 1)),), False), (((1, (1, 1)),), True), (((1, (0, 0)),), True)))

    def test_no_constraints(self):
        self.check(((), ()), le(0), ((((1, ()),), True), (((0, ()),), False), ((), False)))
        self.check(((), ()), le(-1), ((((1, ()),), False),))
        self.assertEqual(KIND.counterexample(((), ()), le(-1)), {})

    def test_counterexamples_beyond_every_bound(self):
        theory = (XY, (le(3, x=1),))
        for constraint in (le(99, x=-1), le(99, y=1), le(99, y=-1), eq(0, y=1), eq(3, x=1), le(99, x=1, y=1)):
            found = KIND.counterexample(theory, constraint)
            self.assertIs(satisfies(KIND, theory, found), True)
            self.assertIs(KIND.holds(constraint, found), False)
        self.assertIsNone(KIND.counterexample(theory, le(3, x=1)))
        self.assertIsNone(KIND.counterexample((XY, (le(-1),)), le(-1)))


class QuickTest(unittest.TestCase):
    def test_limits(self):
        maker = random.Random(9)

        def made(names, count):
            found = []
            for _ in range(count):
                chosen = sorted(maker.sample(names, maker.randrange(1, min(4, len(names)) + 1)))
                one = tuple((name, maker.choice((-9, -7, -4, -1, 1, 3, 5, 8))) for name in chosen)
                found.append((one, "<=", maker.randrange(100)))
            return names, tuple(found)

        start = perf_counter()
        for _ in range(5):
            theory = made(("a", "b", "c", "d"), 8)
            KIND.normal(theory)
            self.assertIsNotNone(solve(KIND, theory))
            shadow(KIND, theory, shown=["b"])
            KIND.certificate(theory, eq(5, a=1))
        # A link: shadows of parts, and the whole of it.
        parts = [made(tuple(sorted((*maker.sample("abcde", 3), f"p{at}.x"))), 8) for at in range(4)]
        shadows = [shadow(KIND, part, shown=[name for name in part[0] if "." not in name]) for part in parts]
        self.assertIsNotNone(solve(KIND, join(shadows)))
        shadow(KIND, join(parts), shown=join(shadows)[0][:2])
        self.assertLess(perf_counter() - start, 5)


if __name__ == "__main__":
    unittest.main()
