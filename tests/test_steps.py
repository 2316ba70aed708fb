"""Points 6, 13 to 20, 25 and 46 to 53: the kind steps."""

import random
import unittest
from time import perf_counter

from shadowlinks.errors import NoSolution
from shadowlinks.kinds import Kind
from shadowlinks.shadows import complete, satisfies, shadow, solve
from shadowlinks.steps import Steps
from tests.kindchecks import KindChecks
from tests.stepcases import THEORIES, is_satisfiable, made_theories, places_of, sums

KIND = Steps()
MORE = (*THEORIES, *made_theories(3, 60))


def pairs(theory):
    """The pairs of sides that a constraint about the names of a theory may have."""
    places = places_of(theory)
    return [(x, y) for x in places for y in places if x != y or x == ""]


class StepsChecks(KindChecks, unittest.TestCase):
    kind = KIND

    def theories(self):
        return THEORIES

    def questions(self, theory):
        found = [(x, y, c) for x, y in pairs(theory) for c in (-3, 0, 2, 7)]
        return found if len(found) < 10 else [("", "", -1), *random.Random(2).sample(found, 9)]

    def retold(self, theory):
        names, constraints = theory
        yield names, constraints[::-1]
        yield names, (*constraints, *[(x, y, c + 1) for x, y, c in constraints], ("", "", 0))
        follow = [(x, y, c) for (x, y), c in sums(theory).items() if c is not None and x != y]
        if is_satisfiable(theory):
            yield names, tuple(follow)
            yield names, (*follow[::-2], *constraints)
        else:
            yield names, (*constraints, ("", "", -9))
            yield names, (("", "", -1), *constraints[:1])

    def other_value(self, theory, solution):
        return {**solution, theory[0][0]: solution[theory[0][0]] + 1} if theory[0] else None


class ConstraintTest(unittest.TestCase):
    def test_kind(self):
        self.assertIsInstance(KIND, Kind)
        self.assertEqual(Steps.WORD, "steps")
        self.assertEqual(KIND.contradiction(), ("", "", -1))

    def test_names(self):
        self.assertEqual(KIND.names_in(("", "", 3)), ())
        self.assertEqual(KIND.names_in(("a", "", 3)), ("a",))
        self.assertEqual(KIND.names_in(("", "b", 3)), ("b",))
        self.assertEqual(KIND.names_in(("b", "a", 3)), ("b", "a"))

    def test_valid(self):
        for constraint in (("a", "b", 3), ("b", "a", -99), ("", "b", 0), ("a", "", 1), ("", "", -1), ("", "", 5)):
            self.assertIs(KIND.is_valid(("a", "b"), constraint), True)
        self.assertIs(KIND.is_valid((), ("", "", 0)), True)

    def test_invalid(self):
        for constraint in (("a", "a", 3), ("a", "c", 0), ("c", "", 0), ("", "c", 0), ("A", "a", 1), ("c", "c", 1)):
            self.assertIs(KIND.is_valid(("a", "b"), constraint), False, constraint)
        self.assertIs(KIND.is_valid((), ("a", "", 0)), False)

    def test_holds(self):
        values = {"a": 4, "b": 9, "z": 0}
        for constraint, wanted in (
            (("a", "b", -5), True), (("a", "b", -6), False), (("a", "b", 0), True), (("b", "a", 5), True),
            (("b", "a", 4), False), (("a", "", 4), True), (("a", "", 3), False), (("", "a", -4), True),
            (("", "a", -5), False), (("", "", 0), True), (("", "", -1), False),
        ):
            self.assertIs(KIND.holds(constraint, values), wanted, constraint)

    def test_rename(self):
        theory = (("a", "b"), (("a", "b", 3), ("", "a", -3), ("b", "", 1), ("", "", 0)))
        wanted = (("a", "b"), (("b", "a", 3), ("", "b", -3), ("a", "", 1), ("", "", 0)))
        self.assertEqual(KIND.rename(theory, {"a": "b", "b": "a"}), wanted)
        wanted = (("b", "z"), (("z", "b", 3), ("", "z", -3), ("b", "", 1), ("", "", 0)))
        self.assertEqual(KIND.rename(theory, {"a": "z"}), wanted)

    def test_pin(self):
        wanted = (("a", "b"), (("a", "", 4), ("", "a", -4), ("b", "", -2), ("", "b", 2)))
        self.assertEqual(KIND.pin(("a", "b"), {"b": -2, "a": 4}), wanted)
        self.assertEqual(KIND.pin((), {}), ((), ()))


class EliminateTest(unittest.TestCase):
    def test_one_constraint_for_each_two_sides(self):
        for theory in MORE:
            for name in theory[0]:
                less = KIND.eliminate(theory, name)
                sides = [constraint[:2] for constraint in less[1]]
                self.assertEqual(len(sides), len(set(sides)))
                wanted = [c for c in KIND.normal(theory)[1] if name not in c[:2]]
                self.assertEqual(KIND.normal(less), (less[0], tuple(wanted)))

    def test_parallel_constraints(self):
        constraints = (("a", "b", 3), ("b", "c", 1), ("b", "c", -1), ("a", "c", 9), ("", "a", 0), ("", "a", 1))
        theory = (("a", "b", "c"), constraints)
        less = KIND.eliminate(theory, "b")
        self.assertEqual(sorted(less[1]), [("", "a", 0), ("a", "c", 2)])

    def test_rings(self):
        theory = (("a", "b"), (("a", "b", 1), ("b", "a", -2)))
        self.assertEqual(KIND.normal(KIND.eliminate(theory, "a")), (("b",), (("", "", -1),)))
        theory = (("a", "b"), (("a", "b", 2), ("b", "a", -2)))
        self.assertEqual(KIND.normal(KIND.eliminate(theory, "a")), (("b",), ()))


class NormalTest(unittest.TestCase):
    def test_the_greatest_differences(self):
        for theory in MORE:
            if is_satisfiable(theory):
                rows = [(x, y, c) for (x, y), c in sums(theory).items() if x != y and c is not None]
                self.assertEqual(KIND.normal(theory), (theory[0], tuple(sorted(rows))))
            else:
                self.assertEqual(KIND.normal(theory), (theory[0], (("", "", -1),)))

    def test_examples(self):
        theory = (("a", "b"), (("b", "", 2), ("a", "b", 3), ("a", "", 99)))
        self.assertEqual(KIND.normal(theory), (("a", "b"), (("a", "", 5), ("a", "b", 3), ("b", "", 2))))
        self.assertEqual(KIND.normal((("a", "b"), (("", "", 4),))), (("a", "b"), ()))


class SolveTest(unittest.TestCase):
    def test_lift(self):
        low, high = ("", "a", -3), ("a", "", 8)
        for constraints, value in (
            ((low, high), 3), ((low,), 3), ((high,), 8), ((), 0), ((("a", "b", 1), ("a", "b", -1)), 9),
            ((("b", "a", 1), ("b", "a", -1)), 11), ((("b", "a", 1), low, ("a", "", 12)), 9), ((("", "", 0),), 0),
            ((("", "a", 5), ("a", "", 9)), -5), ((("a", "", -7),), -7),
        ):
            with self.subTest(constraints=constraints):
                self.assertEqual(KIND.lift((("a", "b"), constraints), "a", {"b": 10}), value)

    def test_lift_without_a_value(self):
        for constraints in (
            (("a", "", 2), ("", "a", -3)), (("", "", -1),), (("b", "", 9),), (("b", "a", 0), ("a", "", 9)),
        ):
            with self.assertRaises(NoSolution):
                KIND.lift((("a", "b"), constraints), "a", {"b": 10})

    def test_first_solutions(self):
        for theory in MORE:
            found = solve(KIND, theory)
            if not is_satisfiable(theory):
                self.assertIsNone(found)
            else:
                self.assertIs(satisfies(KIND, theory, found), True)
                first = theory[0][:1]
                for name in first:
                    low, high = sums(theory)["", name], sums(theory)[name, ""]
                    self.assertEqual(found[name], 0 if low is None and high is None else high if low is None else -low)

    def test_least_greatest_and_zero(self):
        theory = (("a", "b", "c"), (("a", "b", 2), ("", "b", -4), ("c", "a", -1)))
        self.assertEqual(solve(KIND, theory), {"a": 0, "b": 4, "c": -1})
        self.assertEqual(complete(KIND, theory, {"b": 6}), {"a": 8, "b": 6, "c": 7})
        self.assertEqual(complete(KIND, theory, {"c": 6}), {"a": 7, "b": 5, "c": 6})
        with self.assertRaises(NoSolution):
            complete(KIND, theory, {"b": 3})
        with self.assertRaises(NoSolution):
            complete(KIND, theory, {"a": 0, "b": 4, "c": 0})

    def test_ground(self):
        self.assertEqual(KIND.ground(((), ())), {})
        self.assertEqual(KIND.ground(((), (("", "", 0),))), {})
        self.assertIsNone(KIND.ground(((), (("", "", 1), ("", "", -1)))))


class CertificateTest(unittest.TestCase):
    def test_followed_and_short(self):
        for theory in MORE:
            ways = sums(theory)
            for x, y in pairs(theory):
                for c in (-4, -1, 0, 2, 9):
                    wanted = not is_satisfiable(theory) or (ways[x, y] is not None and ways[x, y] <= c)
                    found = KIND.certificate(theory, (x, y, c))
                    self.assertIs(found is not None, wanted)
                    if wanted:
                        self.assertLessEqual(len(found), 100)
                        self.assertIs(KIND.accepts(theory, (x, y, c), found), True)

    def test_accepts(self):
        theory = (("a", "b", "c"), (("a", "b", 3), ("b", "c", -1), ("c", "a", -1), ("c", "", 5), ("b", "a", -4)))
        for constraint, certificate, wanted in (
            (("a", "c", 2), (0, 1), True), (("a", "c", 5), (0, 1), True), (("a", "c", 1), (0, 1), False),
            (("a", "b", 3), (0,), True), (("a", "b", 2), (0,), False), (("b", "a", 3), (0,), False),
            (("a", "c", 2), (1, 0), False), (("a", "", 7), (0, 1, 3), True), (("a", "", 7), (0, 3), False),
            (("a", "b", 4), (0, 1, 2, 0), True), (("a", "b", 3), (0, 1, 2, 0), False),
            # A negative ring shows everything, and may be gone round more than once.
            (("", "c", -99), (0, 4), True), (("", "c", -99), (4, 0), True), (("", "c", -99), (0, 4, 0, 4), True),
            (("", "c", -99), (0, 1, 2), False), (("", "c", -99), (0, 4, 0, 4, 0, 1, 2), True),
            (("", "c", -99), (0, 4, 0, 1, 2), False), (("c", "a", 0), (0, 4, 0), False),
            (("", "", 0), (), True), (("", "", 5), (), True), (("", "", -1), (), False), (("a", "b", 9), (), False),
            (("", "", -1), (0, 4), True), (("a", "b", 9), (-5,), False), (("a", "b", 9), (5,), False),
            (("a", "c", 2), (0, -4), False), (("a", "c", 9), (0, 1, 5), False), (("b", "a", 9), (-1,), False),
            # The ends fit, but what lies between them is no chain.
            (("a", "", 99), (0, 3), False), (("a", "b", 99), (0, 2, 0), False), (("a", "a", -99), (0, 4, 2), False),
            (("", "c", -99), (0, 2, 4), False), (("", "c", -99), (4, 4, 0), False),
        ):
            self.assertIs(KIND.accepts(theory, constraint, certificate), wanted, (constraint, certificate))

    def test_equal_ends_without_a_negative_ring(self):
        theory = (("a",), (("", "a", -2), ("a", "", 2), ("", "", 3)))
        for certificate, least in (((0, 1), 0), ((2,), 3), ((2, 0, 1), 3), ((0, 1, 2, 2), 6)):
            for c in (-1, 0, 2, 3, 5, 6):
                self.assertIs(KIND.accepts(theory, ("", "", c), certificate), c >= least)

    def test_the_empty_certificate_without_constraints(self):
        self.assertIs(KIND.accepts(((), ()), ("", "", 0), ()), True)
        self.assertIs(KIND.accepts(((), ()), ("", "", -1), ()), False)
        self.assertIs(KIND.accepts(((), ()), ("", "", 0), (0,)), False)
        self.assertIs(KIND.accepts((("a",), ()), ("a", "", 9), ()), False)

    def test_counterexample(self):
        theory = (("a", "b"), (("a", "b", 3),))
        found = KIND.counterexample(theory, ("a", "b", 2))
        self.assertEqual(found["a"] - found["b"], 3)
        found = KIND.counterexample(theory, ("b", "a", 98))
        self.assertGreater(found["b"] - found["a"], 98)
        self.assertIsNone(KIND.counterexample(theory, ("a", "b", 3)))
        self.assertEqual(KIND.counterexample(((), ()), ("", "", -1)), {})
        self.assertIsNone(KIND.counterexample(((), ()), ("", "", 0)))


class QuickTest(unittest.TestCase):
    def test_limits(self):
        maker = random.Random(9)
        names = tuple("abcdefghijk")
        start = perf_counter()
        for low in (-20, 0, 30):
            sides = [maker.sample(("", *names), 2) for _ in range(32)]
            theory = (names, tuple((x, y, maker.randrange(low, 100)) for x, y in sides))
            solution = solve(KIND, theory)
            self.assertEqual(solution is None, KIND.normal(theory)[1] == (("", "", -1),))
            shadow(KIND, theory, shown=("a", "e", "k"))
            found = KIND.certificate(theory, ("a", "k", 99))
            self.assertTrue(found is None or len(found) <= 100)
        self.assertLess(perf_counter() - start, 2)


if __name__ == "__main__":
    unittest.main()
