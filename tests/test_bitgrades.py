"""Points 16, 23, 24, 40, 45 and 98 to 101: grades of theories of the kind bits."""

import copy
import random
import unittest
from itertools import combinations_with_replacement, product
from time import perf_counter

from shadowlinks.bitgrades import bit_grades, breach, combine, envelope
from shadowlinks.bits import Bits
from shadowlinks.shadows import check_theory, implies, satisfies
from tests.bitcases import (
    A, B, C, NOT_A, NOT_B, NOT_C, THEORIES, all_assignments, made_clause, made_theories, solutions,
)
from tests.texts import check_tuples

GRADES = ("meet", "join", "pairs", "sums")
MANY = {"meet": 2, "join": 2, "pairs": 3, "sums": 3}
KIND = Bits()


def made_of(grade, rows):
    """What the operation makes of rows of values, by point 98."""
    work = {
        "meet": min, "join": max, "pairs": lambda values: int(sum(values) * 2 > len(values)),
        "sums": lambda values: sum(values) % 2,
    }
    return tuple(work[grade](values) for values in zip(*rows))


def rows_of(theory):
    return {tuple(one.values()) for one in solutions(theory)}


def broken(grade, rows):
    """Rows of which the operation makes no row, or None."""
    for chosen in combinations_with_replacement(sorted(rows), MANY[grade]):
        if made_of(grade, chosen) not in rows and chosen[0] != ():
            return chosen
    return None


def closed(grade, rows):
    """The smallest set of rows with all that the operation makes of them."""
    rows = set(rows)
    while True:
        more = {made_of(grade, chosen) for chosen in combinations_with_replacement(sorted(rows), MANY[grade])}
        if more <= rows or rows <= {()}:
            return rows
        rows |= more


def theory_of(names, rows):
    """A theory with exactly these rows as its solutions."""
    others = [row for row in product((0, 1), repeat=len(names)) if row not in rows]
    return names, tuple(tuple((name, 1 - value) for name, value in zip(names, row)) for row in others)


def some_theories():
    yield from THEORIES
    yield from made_theories(41, 60, 4)
    maker = random.Random(42)
    for count in range(9):
        rows = maker.sample(list(product((0, 1), repeat=3)), count)
        yield theory_of(("a", "b", "c"), rows)
    for count in (2, 3, 4, 8, 12):
        yield theory_of(tuple("abcd"), maker.sample(list(product((0, 1), repeat=4)), count))
    for grade in GRADES:
        for count in (2, 3):
            rows = maker.sample(list(product((0, 1), repeat=4)), count)
            yield theory_of(tuple("abcd"), closed(grade, rows))


class CombineTest(unittest.TestCase):
    def test_ordinary(self):
        first, second, third = {"a": 0, "b": 1, "c": 0}, {"a": 1, "b": 1, "c": 0}, {"a": 1, "b": 0, "c": 0}
        self.assertEqual(combine("meet", first, second), {"a": 0, "b": 1, "c": 0})
        self.assertEqual(combine("join", first, second), {"a": 1, "b": 1, "c": 0})
        self.assertEqual(combine("pairs", first, second, third), {"a": 1, "b": 1, "c": 0})
        self.assertEqual(combine("sums", first, second, third), {"a": 0, "b": 0, "c": 0})
        self.assertEqual(combine("meet", first, second, third), {"a": 0, "b": 0, "c": 0})
        self.assertEqual(combine("join", first, second, third), {"a": 1, "b": 1, "c": 0})

    def test_every_number_of_assignments(self):
        for many in range(1, 8):
            for values in product((0, 1), repeat=many):
                given = [{"a": value, "b": 1 - value} for value in values]
                for grade in GRADES:
                    if many % 2 == 1 or grade in ("meet", "join"):
                        wanted = made_of(grade, [(value, 1 - value) for value in values])
                        self.assertEqual(combine(grade, *given), dict(zip(("a", "b"), wanted)))

    def test_one_assignment_and_no_names(self):
        for grade in GRADES:
            given = {"a": 1, "b": 0}
            found = combine(grade, given)
            self.assertEqual(found, given)
            self.assertIsNot(found, given)
            self.assertEqual(combine(grade, {}, {}, {}), {})

    def test_a_new_dict(self):
        given = [{"a": 1}, {"a": 0}, {"a": 1}]
        for grade in GRADES:
            combine(grade, *given)["a"] = 7
        self.assertEqual(given, [{"a": 1}, {"a": 0}, {"a": 1}])


class GradesTest(unittest.TestCase):
    def test_examples(self):
        self.assertEqual(bit_grades((("a", "b"), ((NOT_A, NOT_B),))), ("meet", "pairs"))
        self.assertEqual(bit_grades((("a", "b"), ((A, B),))), ("join", "pairs"))
        self.assertEqual(bit_grades((("a", "b"), ((A, NOT_B),))), ("meet", "join", "pairs"))
        self.assertEqual(bit_grades((("a", "b"), ((A, NOT_B), (NOT_A, B)))), GRADES)
        self.assertEqual(bit_grades((("a", "b"), ((A, B), (NOT_A, NOT_B)))), ("pairs", "sums"))
        self.assertEqual(bit_grades((("a", "b", "c"), ((A, NOT_B, NOT_C),))), ("meet",))
        self.assertEqual(bit_grades((("a", "b", "c"), ((A, B, NOT_C),))), ("join",))
        self.assertEqual(bit_grades((("a", "b", "c"), ((A, B, C), (NOT_A, NOT_B, NOT_C)))), ())
        odd = theory_of(("a", "b", "c"), ((0, 0, 1), (0, 1, 0), (1, 0, 0), (1, 1, 1)))
        self.assertEqual(bit_grades(odd), ("sums",))

    def test_clauses_that_only_seem_to_break_a_grade(self):
        # a has the value 1, so the long clauses tell nothing more.
        theory = (("a", "b", "c"), ((A, B, C), (A, B, NOT_C), (A,)))
        self.assertEqual(bit_grades(theory), GRADES)

    def test_edges(self):
        for theory in (((), ()), ((), ((),)), (("a",), ()), (("a", "b"), ()), (("a", "b"), ((),)), (("a",), ((A,),))):
            self.assertEqual(bit_grades(theory), GRADES)

    def test_all_grades_by_trying(self):
        found = set()
        for theory in some_theories():
            wanted = tuple(grade for grade in GRADES if broken(grade, rows_of(theory)) is None)
            self.assertEqual(bit_grades(theory), wanted, theory)
            found.add(wanted)
        self.assertGreater(len(found), 5)


class BreachTest(unittest.TestCase):
    def test_exactly_without_the_grade(self):
        for theory in some_theories():
            kept = copy.deepcopy(theory)
            for grade in GRADES:
                found = breach(theory, grade=grade)
                if broken(grade, rows_of(theory)) is None:
                    self.assertIsNone(found)
                    continue
                self.assertIs(found.__class__, tuple)
                self.assertEqual(len(found), MANY[grade])
                for one in found:
                    self.assertEqual(set(one), set(theory[0]))
                    self.assertIs(satisfies(KIND, theory, one), True)
                self.assertIs(satisfies(KIND, theory, combine(grade, *found)), False)
            self.assertEqual(theory, kept)

    def test_not_satisfiable(self):
        for names in ((), ("a",), ("a", "b", "c")):
            for grade in GRADES:
                self.assertIsNone(breach((names, ((),)), grade=grade))

    def test_new_dicts(self):
        theory = (("a", "b"), ((A, B), (NOT_A, NOT_B)))
        for one in breach(theory, grade="meet"):
            one["a"] = 5
        found = sorted(tuple(sorted(one.items())) for one in breach(theory, grade="meet"))
        self.assertEqual(found, [(("a", 0), ("b", 1)), (("a", 1), ("b", 0))])


class EnvelopeTest(unittest.TestCase):
    def test_the_smallest_set(self):
        for theory in some_theories():
            kept = copy.deepcopy(theory)
            for grade in GRADES:
                found = envelope(theory, grade=grade)
                check_tuples(self, found)
                self.assertEqual(found[0], theory[0])
                self.assertIsNone(check_theory(KIND, found))
                self.assertEqual(rows_of(found), closed(grade, rows_of(theory)), (theory, grade))
                self.assertEqual(KIND.normal(found), found)
                self.assertIn(grade, bit_grades(found))
                self.assertIs(implies(KIND, theory, found), True)
                self.assertIs(found == KIND.normal(theory), grade in bit_grades(theory))
            self.assertEqual(theory, kept)

    def test_examples(self):
        theory = (("a", "b", "c"), ((A, B), (NOT_A, NOT_B), (NOT_C,)))
        self.assertEqual(envelope(theory, grade="meet"), (("a", "b", "c"), ((NOT_A, NOT_B), (NOT_C,))))
        self.assertEqual(envelope(theory, grade="join"), (("a", "b", "c"), ((A, B), (NOT_C,))))
        self.assertEqual(envelope(theory, grade="sums"), KIND.normal(theory))
        self.assertEqual(envelope((("a", "b", "c"), ((A, B, C),)), grade="pairs"), (("a", "b", "c"), ()))

    def test_edges(self):
        for grade in GRADES:
            self.assertEqual(envelope(((), ()), grade=grade), ((), ()))
            self.assertEqual(envelope(((), ((),)), grade=grade), ((), ((),)))
            self.assertEqual(envelope((("a", "b"), ((A,), (NOT_A,))), grade=grade), (("a", "b"), ((),)))
            self.assertEqual(envelope((("a", "b"), ()), grade=grade), (("a", "b"), ()))
            single = KIND.pin(("a", "b"), {"a": 1, "b": 0})
            self.assertEqual(envelope(single, grade=grade), single)


class QuickTest(unittest.TestCase):
    def test_limits_and_beyond(self):
        maker = random.Random(43)
        for names, many in ((tuple("abcde"), 8), (tuple("abcdefgh"), 12)):
            for size in (1, 2, 3, 4):
                theory = (names, tuple(made_clause(maker, names, size) for _ in range(many)))
                for work in (bit_grades, *[lambda one, grade=grade: envelope(one, grade=grade) for grade in GRADES]):
                    start = perf_counter()
                    work(theory)
                    self.assertLess(perf_counter() - start, 2)

    def test_many_solutions(self):
        names = tuple("abcdefghijk")
        start = perf_counter()
        self.assertEqual(bit_grades((names, ())), GRADES)
        self.assertEqual(bit_grades((names, (tuple((name, 1) for name in names),))), ("join",))
        self.assertEqual(len(all_assignments(names)), 2048)
        self.assertLess(perf_counter() - start, 4)


if __name__ == "__main__":
    unittest.main()
