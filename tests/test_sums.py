"""Points 7 and 55: terms and sums."""

import unittest
from itertools import product

from shadowlinks.sums import Sum, is_terms
from tests.texts import check_tuples

X, Y, Z = ("x", 2), ("y", -3), ("z", 1)


def all_sums():
    for numbers in product((-2, 0, 1, 3), repeat=3):
        yield Sum(tuple(zip("xyz", numbers)))


class TermsTest(unittest.TestCase):
    def test_right(self):
        for terms in ((), (X,), (X, Y), (X, Y, Z), (("a", 1), ("a.b", -1), ("b", 9))):
            self.assertIs(is_terms(terms), True)

    def test_wrong(self):
        for terms in ((("x", 0),), (X, ("y", 0)), (("w", 0), X), (Y, X), (X, X), (X, ("x", 3)), (X, Z, Y)):
            self.assertIs(is_terms(terms), False)


class SumTest(unittest.TestCase):
    def test_terms(self):
        self.assertEqual(Sum().terms, ())
        self.assertEqual(Sum(()).terms, ())
        self.assertEqual(Sum([]).terms, ())
        self.assertEqual(Sum(terms=[Y, X]).terms, (X, Y))
        self.assertEqual(Sum((Z, X, Y, X, ("z", -1))).terms, (("x", 4), Y))
        self.assertEqual(Sum([("x", 0), Y, ("w", 5), ("w", -5)]).terms, (Y,))
        self.assertEqual(Sum([("x", 1), ("x", -1), ("x", 2)]).terms, (X,))
        check_tuples(self, Sum([["x", 2], ["y", 1]]).terms)

    def test_parts_of_a_sum(self):
        found = Sum([Y, X])
        self.assertEqual(len(found), 2)
        self.assertEqual(len(Sum()), 0)
        self.assertEqual(list(found), [X, Y])
        self.assertEqual(list(found), [X, Y])
        self.assertIs("x" in found, True)
        self.assertIs("z" in found, False)
        self.assertIs("z" in Sum([Z, ("z", -1)]), False)
        self.assertEqual((found["x"], found["y"], found["z"], found["w"]), (2, -3, 0, 0))

    def test_operators(self):
        for first, second in product(all_sums(), repeat=2):
            for name in "xyz":
                self.assertEqual((first + second)[name], first[name] + second[name])
                self.assertEqual((first - second)[name], first[name] - second[name])
            self.assertIs(is_terms((first + second).terms), True)
            self.assertIs(is_terms((first - second).terms), True)
        for first in all_sums():
            self.assertEqual((-first).terms, tuple((name, -number) for name, number in first))
            for factor in (-2, -1, 0, 1, 5):
                wanted = tuple((name, factor * number) for name, number in first if factor != 0)
                self.assertEqual((first * factor).terms, wanted)
                self.assertEqual((factor * first).terms, wanted)

    def test_coefficients_that_meet_to_0(self):
        self.assertEqual((Sum([X, Y]) + Sum([("x", -2), Z])).terms, (Y, Z))
        self.assertEqual((Sum([X, Y]) - Sum([X, Z])).terms, (Y, ("z", -1)))
        self.assertEqual((Sum([X, Y]) - Sum([X, Y])).terms, ())

    def test_at(self):
        self.assertEqual(Sum().at({}), 0)
        self.assertEqual(Sum([X, Y]).at({"x": 4, "y": -1, "w": 9}), 11)
        self.assertEqual(Sum([X, Y]).at({"x": 0, "y": 0}), 0)

    def test_renamed(self):
        found = Sum([X, Y, Z])
        self.assertEqual(found.renamed({}).terms, (X, Y, Z))
        self.assertEqual(found.renamed({"x": "y", "y": "x"}).terms, (("x", -3), ("y", 2), Z))
        self.assertEqual(found.renamed({"x": "zz", "z": "a"}).terms, (("a", 1), Y, ("zz", 2)))
        self.assertEqual(found.renamed({"y": "x"}).terms, (("x", -1), Z))
        self.assertEqual(Sum([X, ("y", -2)]).renamed({"y": "x"}).terms, ())
        self.assertEqual(found.renamed({"w": "x"}).terms, (X, Y, Z))

    def test_sums_never_change(self):
        terms = [Y, X, X]
        table = {"x": "y"}
        first, second = Sum(terms), Sum([Z, X])
        for result in (first + second, first - second, -first, first * 0, 3 * first, first.renamed(table)):
            self.assertIsInstance(result, Sum)
            self.assertIsNot(result, first)
        first.at({"x": 1, "y": 1})
        self.assertEqual((first.terms, second.terms), ((("x", 4), Y), (X, Z)))
        self.assertEqual((terms, table), ([Y, X, X], {"x": "y"}))
        terms.append(Z)
        self.assertEqual(first.terms, (("x", 4), Y))
        self.assertIsInstance(first * 1, Sum)
        self.assertIsInstance(first + Sum(), Sum)


if __name__ == "__main__":
    unittest.main()
