"""Points 9, 13 to 20, 25 and 77 to 82: the kind rows."""

import random
import unittest
from itertools import product
from time import perf_counter

from shadowlinks.errors import NoSolution
from shadowlinks.kinds import Kind
from shadowlinks.rows import Rows
from shadowlinks.shadows import complete, satisfies, shadow, solve
from tests.kindchecks import KindChecks

KIND = Rows()
EVEN = (("a", "b"), ((0, 0), (0, 2), (1, 1), (2, 0), (2, 2)))
LESS = (("b", "c"), ((0, 1), (0, 2), (1, 2)))
NOT_ZERO = (("a",), ((1,), (2,)))
TRUE, FALSE = ((), ((),)), ((), ())
NAMES = ("a", "b", "c")
THEORY = (NAMES, (EVEN, LESS))
CLASH = (("a",), (NOT_ZERO, (("a",), ((0,),))))


def all_rows(count):
    return list(product((0, 1, 2), repeat=count))


def made_table(maker, names):
    own = tuple(sorted(maker.sample(names, maker.randrange(min(3, len(names)) + 1))))
    part = maker.choice((0.4, 0.7, 0.9))
    return own, tuple(row for row in all_rows(len(own)) if maker.random() < part or not own)


def made_theories(seed, count, most=3):
    maker = random.Random(seed)
    for number in range(count):
        names = tuple("abcde"[:number % (most + 1)])
        yield names, tuple(made_table(maker, names) for _ in range(maker.randrange(5)))


SPECIAL = (
    ((), ()),
    ((), (TRUE,)),
    ((), (FALSE,)),
    (("a",), ()),
    (("a", "b"), ()),
    (("a",), ((("a",), ()),)),
    (("a", "b"), ((("a", "b"), tuple(all_rows(2))),)),
    (("a", "b"), (FALSE, EVEN)),
    (("a", "b"), (TRUE, EVEN, EVEN)),
    THEORY,
    CLASH,
    (("a", "b.x"), ((("a", "b.x"), ((0, 1), (2, 2))),)),
)
THEORIES = (*SPECIAL, *made_theories(1, 20))


def solutions(theory):
    found = []
    for row in all_rows(len(theory[0])):
        values = dict(zip(theory[0], row))
        if all(tuple(values[name] for name in names) in table for names, table in theory[1]):
            found.append(values)
    return found


def rows_of(theory):
    return tuple(tuple(solution[name] for name in theory[0]) for solution in solutions(theory))


class RowsChecks(KindChecks, unittest.TestCase):
    kind = KIND

    def theories(self):
        return THEORIES

    def questions(self, theory):
        maker = random.Random(2)
        found = [made_table(maker, theory[0]) for _ in range(6)]
        return [FALSE, TRUE, (theory[0], rows_of(theory)), (theory[0], rows_of(theory)[1:]), *found]

    def retold(self, theory):
        names, tables = theory
        yield names, tables[::-1]
        yield names, (*tables, *tables, TRUE)
        yield names, (*tables, (names, rows_of(theory)))
        yield names, ((names, rows_of(theory)),)
        if not rows_of(theory):
            yield names, (FALSE,)

    def other_value(self, theory, solution):
        return {**solution, theory[0][-1]: (solution[theory[0][-1]] + 1) % 3} if theory[0] else None


class ConstraintTest(unittest.TestCase):
    def test_kind(self):
        self.assertIsInstance(KIND, Kind)
        self.assertEqual(Rows.WORD, "rows")
        self.assertEqual(KIND.contradiction(), ((), ()))

    def test_names(self):
        self.assertEqual(KIND.names_in(TRUE), ())
        self.assertEqual(KIND.names_in(EVEN), ("a", "b"))
        self.assertEqual(KIND.names_in((("b", "a"), ())), ("b", "a"))

    def test_valid(self):
        for table in (TRUE, FALSE, EVEN, LESS, NOT_ZERO, (("a", "c"), ()), (("c",), ((0,), (1,), (2,)))):
            self.assertIs(KIND.is_valid(NAMES, table), True)
        self.assertIs(KIND.is_valid((), TRUE), True)

    def test_invalid(self):
        for table in (
            (("b", "a"), ()), (("a", "a"), ()), (("d",), ()), (("a", "d"), ()), (("a",), ((3,),)), (("a",), ((-1,),)),
            (("a",), ((0,), (1, 1))), (("a",), ((),)), (("a", "b"), ((0,),)), (("a",), ((0, 0),)), ((), ((0,),)),
            (("a",), ((1,), (0,))), (("a",), ((1,), (1,))), ((), ((), ())), (("a", "b"), ((0, 1), (0, 0))),
            (("a", "b"), ((0, 0), (0, 3))), (("a", "b"), ((0, 0), (1, 0), (0, 1))),
        ):
            self.assertIs(KIND.is_valid(NAMES, table), False, table)
        self.assertIs(KIND.is_valid((), NOT_ZERO), False)

    def test_holds(self):
        for a, b in all_rows(2):
            values = {"a": a, "b": b, "z": 0}
            self.assertIs(KIND.holds(EVEN, values), (a, b) in EVEN[1])
            self.assertIs(KIND.holds(NOT_ZERO, values), a != 0)
        self.assertIs(KIND.holds(TRUE, {}), True)
        self.assertIs(KIND.holds(FALSE, {}), False)

    def test_rename(self):
        theory = (("a", "b"), ((("a", "b"), ((0, 1), (0, 2), (1, 0))), TRUE, (("b",), ((1,), (2,)))))
        wanted = (("a", "b"), ((("a", "b"), ((0, 1), (1, 0), (2, 0))), TRUE, (("a",), ((1,), (2,)))))
        self.assertEqual(KIND.rename(theory, {"a": "b", "b": "a"}), wanted)
        wanted = (("b", "z"), ((("b", "z"), ((0, 1), (1, 0), (2, 0))), TRUE, (("b",), ((1,), (2,)))))
        self.assertEqual(KIND.rename(theory, {"a": "z"}), wanted)

    def test_pin(self):
        self.assertEqual(KIND.pin(NAMES, {"c": 2, "a": 0, "b": 1}), (NAMES, ((NAMES, ((0, 1, 2),)),)))
        self.assertEqual(KIND.pin((), {}), ((), (TRUE,)))


class EliminateTest(unittest.TestCase):
    def test_examples(self):
        other = (("a", "c"), ((0, 0), (2, 2)))
        theory = (NAMES, (other, EVEN, (("c",), ((0,), (2,))), LESS, NOT_ZERO))
        wanted = (("a", "c"), (other, theory[1][2], NOT_ZERO, (("a", "c"), ((0, 1), (0, 2), (1, 2), (2, 1), (2, 2)))))
        self.assertEqual(KIND.eliminate(theory, "b"), wanted)
        self.assertEqual(KIND.eliminate((NAMES, (EVEN, NOT_ZERO)), "c"), (("a", "b"), (EVEN, NOT_ZERO)))
        self.assertEqual(KIND.eliminate((NAMES, ()), "a"), (("b", "c"), ()))
        self.assertEqual(KIND.eliminate(CLASH, "a"), ((), (FALSE,)))
        self.assertEqual(KIND.eliminate((("a",), (NOT_ZERO,)), "a"), ((), (TRUE,)))

    def test_the_kept_tables_and_one_more(self):
        for theory in (*THEORIES, *made_theories(3, 30, 4)):
            names, tables = theory
            for name in names:
                less = KIND.eliminate(theory, name)
                kept = tuple(table for table in tables if name not in table[0])
                met = [table for table in tables if name in table[0]]
                self.assertEqual(less[1][:len(kept)], kept)
                self.assertEqual(len(less[1]), len(kept) + (1 if met else 0))
                if met:
                    merged = tuple(sorted({own for table in met for own in table[0]}))
                    at = merged.index(name)
                    rows = sorted({row[:at] + row[at + 1:] for row in rows_of((merged, tuple(met)))})
                    self.assertEqual(less[1][-1], (merged[:at] + merged[at + 1:], tuple(rows)))


class NormalTest(unittest.TestCase):
    def test_one_table_of_the_solutions(self):
        for theory in (*THEORIES, *made_theories(4, 30, 4)):
            self.assertEqual(KIND.normal(theory), (theory[0], ((theory[0], rows_of(theory)),)))

    def test_edges(self):
        self.assertEqual(KIND.normal(((), ())), ((), (TRUE,)))
        self.assertEqual(KIND.normal(((), (FALSE, TRUE))), ((), (FALSE,)))
        self.assertEqual(KIND.normal((("a",), ())), (("a",), ((("a",), ((0,), (1,), (2,))),)))
        self.assertEqual(KIND.normal(CLASH), (("a",), ((("a",), ()),)))


class SolveTest(unittest.TestCase):
    def test_lift(self):
        for tables, value in (((EVEN,), 1), ((), 0), ((NOT_ZERO,), 1), (((("a",), ((2,),)),), 2), ((EVEN, NOT_ZERO), 1)):
            self.assertEqual(KIND.lift((("a", "b"), tables), "a", {"b": 1}), value)
        for tables in ((FALSE,), ((("a",), ()),), ((("b",), ((0,),)),), (EVEN, (("a",), ((0,), (2,))))):
            with self.assertRaises(NoSolution):
                KIND.lift((("a", "b"), tables), "a", {"b": 1})

    def test_the_least_solution(self):
        for theory in (*THEORIES, *made_theories(5, 30, 4)):
            found = solutions(theory)
            self.assertEqual(solve(KIND, theory), found[0] if found else None)

    def test_examples(self):
        self.assertEqual(solve(KIND, THEORY), {"a": 0, "b": 0, "c": 1})
        self.assertEqual(complete(KIND, THEORY, {"a": 1}), {"a": 1, "b": 1, "c": 2})
        self.assertEqual(shadow(KIND, THEORY, shown=["c"]), (("c",), ((("c",), ((1,), (2,))),)))
        for given in ({"c": 0}, {"a": 1, "b": 0}, {"a": 1, "b": 1, "c": 1}):
            with self.assertRaises(NoSolution):
                complete(KIND, THEORY, given)

    def test_ground(self):
        self.assertEqual(KIND.ground(((), ())), {})
        self.assertEqual(KIND.ground(((), (TRUE, TRUE))), {})
        self.assertIsNone(KIND.ground(((), (TRUE, FALSE))))


class CertificateTest(unittest.TestCase):
    def test_exactly_what_follows(self):
        maker = random.Random(7)
        for theory in (*THEORIES, *made_theories(6, 30, 4)):
            for _ in range(5):
                table = made_table(maker, theory[0])
                wanted = all(tuple(one[name] for name in table[0]) in table[1] for one in solutions(theory))
                self.assertEqual(KIND.certificate(theory, table) is not None, wanted)
                found = KIND.counterexample(theory, table)
                self.assertEqual(found is None, wanted)
                if found is not None:
                    self.assertIn(found, solutions(theory))
                    self.assertIs(KIND.holds(table, found), False)

    def check(self, theory, table, rows):
        for tree, wanted in rows:
            self.assertIs(KIND.accepts(theory, table, tree), wanted, (table, tree))

    def test_trees(self):
        theory = (("a", "b"), (NOT_ZERO, (("a", "b"), ((0, 0), (1, 1), (2, 1)))))
        table = (("b",), ((1,),))
        right = ("b", ("a", 0, 1, 1), -1, 1)
        self.check(theory, table, (
            (right, True), (("a", 0, ("b", 1, -1, 1), ("b", 1, -1, 1)), True),
            # What fails already fails, too, when more is decided.
            (("b", ("a", 0, 1, 1), ("a", -1, -1, -1), ("a", 1, 1, 1)), True),
            # The constraint does not hold, or is not decided.
            (("b", -1, -1, 1), False), (-1, False), (("a", -1, -1, -1), False), (("b", ("a", 0, -1, 1), -1, 1), False),
            (("b", ("a", 0, 1, 1), -1, -1), False),
            # The constraint of the theory does not fail yet.
            (("b", 0, -1, 1), False), (0, False), (1, False), (("b", ("a", 1, 1, 1), -1, 1), False),
            (("b", ("a", 0, 0, 1), -1, 1), False), (("b", ("a", 0, 1, 1), 1, 1), False),
            # No such constraint.
            (("b", ("a", 0, 1, 1), -1, 2), False), (("b", ("a", 0, 1, 1), -1, -2), False), (2, False), (-2, False),
            (("b", ("a", 0, 1, 1), -1, 99), False), (-99, False),
            # Names that are foreign, or decided already.
            (("c", right, right, right), False), (("", right, right, right), False), (("b", ("b", 1, 1, 1), -1, 1), False),
            (("a", 0, ("a", 0, right, right), right), False), (("b", ("a", 0, ("b", 1, 1, 1), 1), -1, 1), False),
        ))

    def test_single_integers(self):
        self.check(((), ()), TRUE, ((-1, True), (0, False)))
        self.check(((), ()), FALSE, ((-1, False), (0, False)))
        self.check(((), (FALSE,)), FALSE, ((0, True), (-1, False), (1, False)))
        self.check((("a",), (TRUE, (("a",), ()))), FALSE, ((1, True), (0, False), (("a", 1, 1, 1), True)))
        self.check((("a",), (NOT_ZERO,)), (("a",), ()), ((0, False), (("a", 0, -1, -1), False)))
        self.check((("a",), (NOT_ZERO,)), (("a",), ((0,), (1,), (2,))), ((("a", -1, -1, -1), True), (-1, False)))

    def test_counterexample(self):
        self.assertEqual(KIND.counterexample(((), ()), FALSE), {})
        self.assertIsNone(KIND.counterexample(((), ()), TRUE))
        self.assertIsNone(KIND.counterexample(CLASH, FALSE))
        self.assertEqual(KIND.counterexample(THEORY, (("a", "c"), ((0, 1), (0, 2), (1, 2), (2, 2)))), {"a": 2, "b": 0, "c": 1})


class QuickTest(unittest.TestCase):
    def test_limits(self):
        maker = random.Random(9)
        start = perf_counter()
        for count, many in ((5, 8), (11, 32)):
            names = tuple("abcdefghijk"[:count])
            for _ in range(4):
                values = {name: maker.randrange(3) for name in names}
                tables = []
                for _ in range(many):
                    own = tuple(sorted(maker.sample(names, maker.randrange(1, 5))))
                    fixed = tuple(values[name] for name in own)
                    tables.append((own, tuple(row for row in all_rows(len(own)) if row == fixed or maker.randrange(9))))
                theory = (names, tuple(tables))
                found = solve(KIND, theory)
                self.assertIs(satisfies(KIND, theory, found), True)
                asked = shadow(KIND, theory, shown=names[:2])[1][0]
                tree = KIND.certificate(theory, asked)
                self.assertIs(KIND.accepts(theory, asked, tree), True)
        self.assertLess(perf_counter() - start, 5)


if __name__ == "__main__":
    unittest.main()
