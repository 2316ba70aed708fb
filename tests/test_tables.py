"""Points 77 and 78: tables."""

import copy
import random
import unittest
from itertools import product

from shadowlinks.tables import can_hold, drop_column, join_tables
from tests.texts import check_tuples

EVEN = (("a", "b"), ((0, 0), (0, 2), (1, 1), (2, 0), (2, 2)))
LESS = (("b", "c"), ((0, 1), (0, 2), (1, 2)))
TRUE, FALSE = ((), ((),)), ((), ())


def made_tables(seed, count, names="abcd"):
    maker = random.Random(seed)
    for _ in range(count):
        own = tuple(sorted(maker.sample(names, maker.randrange(4))))
        part = maker.random()
        yield own, tuple(row for row in product((0, 1, 2), repeat=len(own)) if maker.random() < part)


class JoinTest(unittest.TestCase):
    def test_examples(self):
        wanted = (("a", "b", "c"), ((0, 0, 1), (0, 0, 2), (1, 1, 2), (2, 0, 1), (2, 0, 2)))
        self.assertEqual(join_tables(EVEN, LESS), wanted)
        self.assertEqual(join_tables(LESS, EVEN), wanted)
        self.assertEqual(join_tables(EVEN, EVEN), EVEN)
        self.assertEqual(join_tables(EVEN, (("a",), ((1,), (2,)))), (("a", "b"), ((1, 1), (2, 0), (2, 2))))
        self.assertEqual(join_tables((("b",), ((1,),)), (("a",), ((0,), (2,)))), (("a", "b"), ((0, 1), (2, 1))))
        self.assertEqual(join_tables((("b",), ((1,),)), (("b",), ((0,),))), (("b",), ()))

    def test_without_names_or_rows(self):
        self.assertEqual(join_tables(TRUE, EVEN), EVEN)
        self.assertEqual(join_tables(EVEN, TRUE), EVEN)
        self.assertEqual(join_tables(FALSE, EVEN), (("a", "b"), ()))
        self.assertEqual(join_tables(EVEN, (("c",), ())), (("a", "b", "c"), ()))
        self.assertEqual(join_tables(TRUE, TRUE), TRUE)
        self.assertEqual(join_tables(TRUE, FALSE), FALSE)

    def test_all_rows_that_fit_both(self):
        for first, second in zip(made_tables(1, 60), made_tables(2, 60)):
            names = tuple(sorted({*first[0], *second[0]}))
            wanted = []
            for row in product((0, 1, 2), repeat=len(names)):
                values = dict(zip(names, row))
                if all(tuple(values[name] for name in own) in table for own, table in (first, second)):
                    wanted.append(row)
            self.assertEqual(join_tables(first, second), (names, tuple(wanted)))


class DropTest(unittest.TestCase):
    def test_examples(self):
        self.assertEqual(drop_column(EVEN, "a"), (("b",), ((0,), (1,), (2,))))
        self.assertEqual(drop_column(LESS, "c"), (("b",), ((0,), (1,))))
        self.assertEqual(drop_column(LESS, "b"), (("c",), ((1,), (2,))))
        self.assertEqual(drop_column((("a",), ((1,), (2,))), "a"), TRUE)
        self.assertEqual(drop_column((("a",), ()), "a"), FALSE)
        table = (("a", "b", "c"), ((0, 2, 1), (1, 0, 0), (1, 1, 0), (2, 0, 1)))
        self.assertEqual(drop_column(table, "b"), (("a", "c"), ((0, 1), (1, 0), (2, 1))))
        self.assertEqual(drop_column(table, "a"), (("b", "c"), ((0, 0), (0, 1), (1, 0), (2, 1))))

    def test_all(self):
        for names, rows in made_tables(3, 60):
            for at, name in enumerate(names):
                wanted = sorted({row[:at] + row[at + 1:] for row in rows})
                self.assertEqual(drop_column((names, rows), name), (names[:at] + names[at + 1:], tuple(wanted)))


class HoldTest(unittest.TestCase):
    def test_examples(self):
        for decided, wanted in (
            ({}, True), ({"a": 1}, True), ({"a": 1, "b": 1}, True), ({"a": 1, "b": 0}, False), ({"b": 2}, True),
            ({"z": 0}, True), ({"z": 0, "a": 1, "b": 2}, False),
        ):
            self.assertIs(can_hold(EVEN, decided), wanted)
        self.assertIs(can_hold(LESS, {"b": 2}), False)
        self.assertIs(can_hold(LESS, {"c": 0}), False)

    def test_without_names_or_rows(self):
        for decided in ({}, {"a": 0}):
            self.assertIs(can_hold(TRUE, decided), True)
            self.assertIs(can_hold(FALSE, decided), False)
            self.assertIs(can_hold((("a",), ()), decided), False)

    def test_all(self):
        for names, rows in made_tables(4, 60):
            for values in product((None, 0, 1, 2), repeat=4):
                decided = {name: value for name, value in zip("abcd", values) if value is not None}
                wanted = any(all(decided.get(name, value) == value for name, value in zip(names, row)) for row in rows)
                self.assertIs(can_hold((names, rows), decided), wanted)


class UnchangedTest(unittest.TestCase):
    def test_arguments_stay_and_results_are_tuples(self):
        first, second, decided = copy.deepcopy((EVEN, LESS, {"a": 1}))
        check_tuples(self, join_tables(first, second))
        check_tuples(self, drop_column(first, "a"))
        can_hold(first, decided)
        self.assertEqual((first, second, decided), (EVEN, LESS, {"a": 1}))


if __name__ == "__main__":
    unittest.main()
