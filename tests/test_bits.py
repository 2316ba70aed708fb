"""Points 5, 13 to 20, 25 and 36 to 45: the kind bits."""

import random
import unittest
from itertools import product
from time import perf_counter

from shadowlinks.bits import Bits
from shadowlinks.cuts import derive_lines
from shadowlinks.errors import NoSolution
from shadowlinks.kinds import Kind
from shadowlinks.shadows import complete, satisfies, shadow, solve
from tests.bitcases import (
    A, B, C, NOT_A, NOT_B, NOT_C, THEORIES, all_assignments, all_clauses, holds_in, made_clause, made_theories, solutions,
)
from tests.kindchecks import KindChecks

KIND = Bits()


class BitsChecks(KindChecks, unittest.TestCase):
    kind = KIND

    def theories(self):
        return THEORIES

    def questions(self, theory):
        clauses = list(all_clauses(theory[0]))
        return clauses if len(clauses) < 10 else clauses[:1] + random.Random(2).sample(clauses, 8)

    def retold(self, theory):
        names, clauses = theory
        yield names, clauses[::-1]
        yield names, clauses + clauses
        follow = [clause for clause in all_clauses(names) if holds_in(clause, solutions(theory))]
        yield names, (*follow[::2], *clauses)
        yield names, tuple(follow)

    def other_value(self, theory, solution):
        return {**solution, theory[0][-1]: 1 - solution[theory[0][-1]]} if theory[0] else None


class ConstraintTest(unittest.TestCase):
    def test_kind(self):
        self.assertIsInstance(KIND, Kind)
        self.assertEqual(Bits.WORD, "bits")
        self.assertEqual(KIND.contradiction(), ())

    def test_names(self):
        self.assertEqual(KIND.names_in(()), ())
        self.assertEqual(KIND.names_in((A, NOT_C)), ("a", "c"))
        self.assertEqual(KIND.names_in((NOT_C, A)), ("c", "a"))

    def test_valid(self):
        for clause in ((), (A,), (NOT_A,), (A, NOT_B), (A, ("b.x", 1), NOT_C)):
            self.assertIs(KIND.is_valid(("a", "b", "b.x", "c"), clause), True)
        self.assertIs(KIND.is_valid((), ()), True)

    def test_invalid(self):
        for clause in (
            (("a", 2),), (("a", -1),), (A, ("b", 3)), (B, A), (A, A), (A, NOT_A), (A, B, NOT_B), (C,), (A, C),
            (("A", 1),), (("", 1),), (A, NOT_C, B),
        ):
            self.assertIs(KIND.is_valid(("a", "b"), clause), False, clause)
        self.assertIs(KIND.is_valid((), (A,)), False)

    def test_holds(self):
        self.assertIs(KIND.holds((), {}), False)
        self.assertIs(KIND.holds((), {"a": 1}), False)
        for a, b in product((0, 1), repeat=2):
            values = {"a": a, "b": b, "z": 1}
            self.assertIs(KIND.holds((A,), values), a == 1)
            self.assertIs(KIND.holds((NOT_A,), values), a == 0)
            self.assertIs(KIND.holds((A, NOT_B), values), a == 1 or b == 0)

    def test_rename(self):
        theory = (("a", "b", "c"), ((A, NOT_B), (), (B, NOT_C), (A, NOT_B)))
        wanted = (("a", "b", "c"), ((NOT_A, B), (), (A, NOT_C), (NOT_A, B)))
        self.assertEqual(KIND.rename(theory, {"a": "b", "b": "a"}), wanted)
        wanted = (("b", "c", "z"), ((NOT_B, ("z", 1)), (), (B, NOT_C), (NOT_B, ("z", 1))))
        self.assertEqual(KIND.rename(theory, {"a": "z"}), wanted)

    def test_pin(self):
        names = ("a", "b", "c")
        self.assertEqual(KIND.pin(names, {"c": 0, "a": 1, "b": 0}), (names, ((A,), (NOT_B,), (NOT_C,))))
        self.assertEqual(KIND.pin((), {}), ((), ()))


class EliminateTest(unittest.TestCase):
    def test_solutions_and_number_of_clauses(self):
        for theory in (*THEORIES, *made_theories(3, 60, 5)):
            names, clauses = theory
            for name in names:
                less = KIND.eliminate(theory, name)
                both = [sum((name, sign) in clause for clause in clauses) for sign in (1, 0)]
                self.assertLessEqual(len(less[1]), len(clauses) - sum(both) + both[0] * both[1])
                others = [{n: v for n, v in one.items() if n != name} for one in solutions(theory)]
                for one in all_assignments(less[0]):
                    self.assertIs(satisfies(KIND, less, one), one in others)

    def test_example(self):
        theory = (("a", "b", "c"), ((A, B), (NOT_A, C)))
        self.assertEqual(KIND.normal(KIND.eliminate(theory, "a")), (("b", "c"), ((B, C),)))
        self.assertEqual(KIND.normal(KIND.eliminate(theory, "b")), (("a", "c"), ((NOT_A, C),)))


class NormalTest(unittest.TestCase):
    def test_the_clauses_that_follow_without_dispensable_literals(self):
        for theory in (*THEORIES, *made_theories(4, 60)):
            found = solutions(theory)
            follow = [clause for clause in all_clauses(theory[0]) if holds_in(clause, found)]
            least = [clause for clause in follow if not any(set(other) < set(clause) for other in follow)]
            self.assertEqual(KIND.normal(theory), (theory[0], tuple(sorted(least))))

    def test_unsatisfiable(self):
        for theory in THEORIES:
            if not solutions(theory):
                self.assertEqual(KIND.normal(theory), (theory[0], ((),)))

    def test_all_assignments(self):
        self.assertEqual(KIND.normal((("a", "b"), ())), (("a", "b"), ()))
        self.assertEqual(KIND.normal(((), ())), ((), ()))

    def test_order(self):
        theory = (("a", "b", "c"), ((B, C), (NOT_A, NOT_C), (A, B)))
        self.assertEqual(KIND.normal(theory)[1], ((NOT_A, NOT_C), (B,)))


class SolveTest(unittest.TestCase):
    def test_the_least_tuple(self):
        for theory in (*THEORIES, *made_theories(5, 60, 5)):
            found = solutions(theory)
            self.assertEqual(solve(KIND, theory), found[0] if found else None)

    def test_lift(self):
        theory = (("a", "b"), ((A, B), (NOT_A, NOT_B)))
        self.assertEqual(KIND.lift(theory, "a", {"b": 0}), 1)
        self.assertEqual(KIND.lift(theory, "a", {"b": 1}), 0)
        self.assertEqual(KIND.lift((("a", "b"), ((A, B),)), "a", {"b": 1}), 0)
        self.assertEqual(KIND.lift((("a",), ()), "a", {}), 0)
        for clauses in (((A, B), (NOT_A, B)), ((B,),), ((),)):
            with self.assertRaises(NoSolution):
                KIND.lift((("a", "b"), clauses), "a", {"b": 0})

    def test_ground(self):
        self.assertEqual(KIND.ground(((), ())), {})
        self.assertIsNone(KIND.ground(((), ((),))))

    def test_complete(self):
        theory = (("a", "b", "c"), ((A, B), (NOT_B, C)))
        self.assertEqual(complete(KIND, theory, {}), {"a": 0, "b": 1, "c": 1})
        self.assertEqual(complete(KIND, theory, {"c": 0}), {"a": 1, "b": 0, "c": 0})
        for given in ({"a": 0, "c": 0}, {"a": 0, "b": 0}, {"a": 0, "b": 1, "c": 0}):
            with self.assertRaises(NoSolution):
                complete(KIND, theory, given)


class CertificateTest(unittest.TestCase):
    def test_lines_are_right_and_few(self):
        for theory in (*THEORIES, *made_theories(6, 60, 5)):
            found = solutions(theory)
            for clause in list(all_clauses(theory[0]))[::5]:
                lines = KIND.certificate(theory, clause)
                self.assertEqual(lines is not None, holds_in(clause, found))
                if lines is not None:
                    self.assertTrue(1 <= len(lines) <= 3000)
                    self.assertLessEqual(set(derive_lines(theory[1], lines)[-1]), set(clause))

    def test_few_lines_for_seven_and_more_names(self):
        for count in (7, 9):
            names = tuple("abcdefghijk"[:count])
            # All clauses over all names together leave no assignment.
            theory = (names, tuple(tuple(zip(names, row)) for row in product((0, 1), repeat=count)))
            lines = KIND.certificate(theory, ())
            self.assertLessEqual(len(lines), 3000)
            self.assertIs(KIND.accepts(theory, (), lines), True)

    def test_a_long_chain(self):
        names = tuple("abcdefghijk")
        chain = [(NOT_A,), *[((first, 1), (second, 0)) for first, second in zip(names, names[1:])]]
        lines = KIND.certificate((names, tuple(chain)), (("k", 0),))
        self.assertLessEqual(len(lines), 3000)
        self.assertIs(KIND.accepts((names, tuple(chain)), (("k", 0),), lines), True)

    def test_accepted(self):
        theory = (("a", "b", "c"), ((A, B), (NOT_A, B)))
        lines = (("given", 0), ("given", 1), ("cut", 0, 1, "a"))
        self.assertIs(KIND.accepts(theory, (B,), lines), True)
        self.assertIs(KIND.accepts(theory, (B, C), lines), True)
        self.assertIs(KIND.accepts(theory, (NOT_A, B), lines), True)
        self.assertIs(KIND.accepts(theory, (A, B), lines[:1]), True)
        self.assertIs(KIND.accepts(theory, (A, B, NOT_C), lines[:1]), True)
        self.assertIs(KIND.accepts((("a",), ((),)), (), (("given", 0),)), True)
        self.assertIs(KIND.accepts((("a",), ((),)), (A,), (("given", 0),)), True)

    def test_not_accepted(self):
        theory = (("a", "b", "c"), ((A, B), (NOT_A, B)))
        lines = (("given", 0), ("given", 1), ("cut", 0, 1, "a"))
        for clause, certificate in (
            ((B,), ()), ((), ()), ((C,), lines), ((NOT_B,), lines), ((), lines), ((A,), lines), ((B,), lines[:2]),
            ((B,), (*lines, ("given", 0))), ((B,), (*lines, ("given", 2))), ((B,), (("given", -1), *lines)),
            ((B,), (*lines[:2], ("cut", 1, 0, "a"))), ((B,), (*lines[:2], ("cut", 0, -1, "a"))),
            ((B,), (*lines[:2], ("cut", 0, 2, "a"))), ((B,), (*lines[:2], ("cut", 0, 1, "b"))),
        ):
            self.assertIs(KIND.accepts(theory, clause, certificate), False, (clause, certificate))

    def test_counterexample(self):
        theory = (("a", "b"), ((A, B),))
        self.assertEqual(KIND.counterexample(theory, (NOT_A, NOT_B)), {"a": 1, "b": 1})
        self.assertEqual(KIND.counterexample(theory, (A,)), {"a": 0, "b": 1})
        self.assertIsNone(KIND.counterexample(theory, (A, B)))
        self.assertEqual(KIND.counterexample(((), ()), ()), {})


class QuickTest(unittest.TestCase):
    def test_limits(self):
        maker = random.Random(9)
        names = tuple("abcdefghijk")
        start = perf_counter()
        for size in (2, 3, 4):
            theory = (names, tuple(made_clause(maker, names, size) for _ in range(32)))
            solution = solve(KIND, theory)
            self.assertEqual(solution is None, KIND.normal(theory)[1] == ((),))
            shadow(KIND, theory, shown=("a", "e", "k"))
            KIND.certificate(theory, ())
        for theory in made_theories(10, 30, 5):
            KIND.normal(theory)
            solve(KIND, theory)
        self.assertLess(perf_counter() - start, 5)


if __name__ == "__main__":
    unittest.main()
