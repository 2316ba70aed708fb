"""Points 36 to 38: clauses."""

import unittest
from itertools import combinations, product

from shadowlinks.clauses import contains, least_clauses, resolvent

A, B, C = ("a", 1), ("b", 1), ("c", 1)
NOT_A, NOT_B, NOT_C = ("a", 0), ("b", 0), ("c", 0)


def all_clauses(names="abc"):
    for signs in product((None, 0, 1), repeat=len(names)):
        yield tuple((name, sign) for name, sign in zip(names, signs) if sign is not None)


class ContainsTest(unittest.TestCase):
    def test_examples(self):
        self.assertIs(contains((A, B), (A,)), True)
        self.assertIs(contains((A, B), (B,)), True)
        self.assertIs(contains((A,), (A, B)), False)
        self.assertIs(contains((A, B), (NOT_A,)), False)
        self.assertIs(contains((), (A,)), False)

    def test_each_contains_itself_and_the_empty_clause(self):
        for clause in all_clauses():
            self.assertIs(contains(clause, clause), True)
            self.assertIs(contains(clause, ()), True)

    def test_all_pairs(self):
        for first, second in product(all_clauses(), repeat=2):
            self.assertIs(contains(first, second), set(second) <= set(first))


class ResolventTest(unittest.TestCase):
    def test_examples(self):
        self.assertEqual(resolvent((A, B), (NOT_A, B), "a"), (B,))
        self.assertEqual(resolvent((A, C), (NOT_A, B), "a"), (B, C))
        self.assertEqual(resolvent((A,), (NOT_A,), "a"), ())
        self.assertEqual(resolvent((A, B), (A, NOT_B), "b"), (A,))
        self.assertEqual(resolvent((("x.a", 1), ("z", 0)), (("b", 1), ("x.a", 0)), "x.a"), (("b", 1), ("z", 0)))

    def test_opposite_signs_that_are_left(self):
        self.assertIsNone(resolvent((A, B), (NOT_A, NOT_B), "a"))
        self.assertIsNone(resolvent((A, NOT_B, C), (NOT_A, B, C), "a"))
        self.assertIsNone(resolvent((A, B), (NOT_A, NOT_B), "b"))

    def test_all_pairs(self):
        for name in "abc":
            for first, second in product(all_clauses(), repeat=2):
                if (name, 1) in first and (name, 0) in second:
                    literals = {literal for literal in first + second if literal[0] != name}
                    names = [own for own, _ in literals]
                    wanted = tuple(sorted(literals)) if len(set(names)) == len(names) else None
                    self.assertEqual(resolvent(first, second, name), wanted)


class LeastClausesTest(unittest.TestCase):
    def test_examples(self):
        self.assertEqual(least_clauses([]), ())
        self.assertEqual(least_clauses(()), ())
        self.assertEqual(least_clauses([(A, B), (A,), (B, C)]), ((A,), (B, C)))
        self.assertEqual(least_clauses(((C,), (NOT_A,), (A, B))), ((NOT_A,), (A, B), (C,)))

    def test_equal_clauses_count_once(self):
        self.assertEqual(least_clauses([(A,), (A,), (A, B), (A,)]), ((A,),))
        self.assertEqual(least_clauses([(), ()]), ((),))

    def test_the_empty_clause_is_least(self):
        self.assertEqual(least_clauses([(A,), (), (A, B)]), ((),))

    def test_all_triples(self):
        for clauses in combinations(list(all_clauses("ab")), 3):
            wanted = sorted(
                clause for clause in clauses
                if not any(set(other) < set(clause) for other in clauses)
            )
            self.assertEqual(least_clauses(list(clauses)), tuple(wanted))
            self.assertEqual(least_clauses(clauses[::-1] + clauses), tuple(wanted))

    def test_clauses_stay_as_they_were(self):
        clauses = [(C,), (A, B), (A,), (A,)]
        self.assertIsInstance(least_clauses(clauses), tuple)
        self.assertEqual(clauses, [(C,), (A, B), (A,), (A,)])


if __name__ == "__main__":
    unittest.main()
