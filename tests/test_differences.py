"""Points 46 to 48: greatest differences, the lowest and the highest solution."""

import copy
import unittest

from shadowlinks.differences import Differences
from shadowlinks.errors import NoSolution
from shadowlinks.shadows import satisfies
from shadowlinks.steps import Steps
from tests.stepcases import THEORIES, is_satisfiable, made_theories, places_of, sums
from tests.texts import check_tuples

CHAIN = (("u", "v", "w", "z"), (("u", "v", 3), ("v", "w", -1), ("w", "z", 5)))
RING = (("a", "b"), (("a", "b", 2), ("b", "a", -3)))
MORE = (*THEORIES, *made_theories(2, 60))


class GreatestTest(unittest.TestCase):
    def test_the_example(self):
        found = Differences(CHAIN)
        self.assertEqual(found["u", "z"], 7)
        self.assertEqual(found["u", "w"], 2)
        self.assertEqual(found["v", "z"], 4)
        self.assertIsNone(found["z", "u"])
        self.assertIsNone(found["u", ""])
        self.assertEqual(found["u", "u"], 0)
        self.assertEqual(found["", ""], 0)

    def test_all_pairs(self):
        for theory in MORE:
            found = Differences(theory)
            self.assertIs(found.satisfiable, is_satisfiable(theory))
            for x in places_of(theory):
                for y in places_of(theory):
                    if is_satisfiable(theory):
                        self.assertEqual(found[x, y], sums(theory)[x, y])
                    else:
                        with self.assertRaises(NoSolution):
                            found[x, y]

    def test_no_solution(self):
        for theory in (RING, ((), (("", "", -1),))):
            found = Differences(theory)
            self.assertIs(found.satisfiable, False)
            with self.assertRaises(NoSolution):
                found["", ""]
            self.assertIsNone(found.lowest)
            self.assertIsNone(found.highest)
            self.assertEqual(list(found), [("", "", -1)])
            self.assertEqual(len(found), 1)
            self.assertIs(("", "", -5) in found, True)


class MemberTest(unittest.TestCase):
    def test_constraints(self):
        found = Differences(CHAIN)
        for constraint, wanted in (
            (("u", "z", 7), True), (("u", "z", 6), False), (("u", "z", 8), True), (("z", "u", 99), False),
            (("", "", 0), True), (("", "", -1), False), (("", "", 3), True), (("u", "", 99), False),
        ):
            self.assertIs(constraint in found, wanted, constraint)

    def test_all_pairs(self):
        for theory in MORE:
            found = Differences(theory)
            for x in places_of(theory):
                for y in places_of(theory):
                    if x != y or x == "":
                        for c in (-3, -1, 0, 1, 4):
                            way = sums(theory)[x, y]
                            wanted = not is_satisfiable(theory) or (way is not None and way <= c)
                            self.assertIs((x, y, c) in found, wanted)


class SequenceTest(unittest.TestCase):
    def test_normal_form(self):
        for theory in MORE:
            found = Differences(theory)
            self.assertEqual(tuple(found), Steps().normal(theory)[1])
            self.assertEqual(list(found), sorted(found))
            self.assertEqual(len(found), len(tuple(found)))
            check_tuples(self, tuple(found))

    def test_nothing(self):
        self.assertEqual(list(Differences(((), ()))), [])
        self.assertEqual(len(Differences((("a",), ()))), 0)


class AddTest(unittest.TestCase):
    def test_one_more_constraint(self):
        found = Differences(CHAIN)
        before = list(found)
        more = found + ("z", "", 1)
        self.assertIsInstance(more, Differences)
        self.assertIsNot(more, found)
        self.assertEqual(more["u", ""], 8)
        self.assertEqual(list(more), list(Differences((CHAIN[0], (*CHAIN[1], ("z", "", 1))))))
        self.assertIsNone(found["u", ""])
        self.assertEqual(list(found), before)
        ring = more + ("z", "u", -8)
        self.assertIs(ring.satisfiable, False)
        self.assertIs(more.satisfiable, True)
        self.assertIs((ring + ("u", "", 0)).satisfiable, False)

    def test_all_theories(self):
        for theory in MORE:
            for constraint in (("", "", 0), ("", "", -1), *[("", name, -2) for name in theory[0]]):
                found = Differences(theory) + constraint
                wanted = Differences((theory[0], (*theory[1], constraint)))
                self.assertEqual(list(found), list(wanted))
                self.assertEqual((found.lowest, found.highest), (wanted.lowest, wanted.highest))


class EndsTest(unittest.TestCase):
    def test_examples(self):
        theory = (("a", "b"), (("a", "", 4), ("", "a", -1), ("b", "a", 2), ("a", "b", 0)))
        self.assertEqual(Differences(theory).lowest, {"a": 1, "b": 1})
        self.assertEqual(Differences(theory).highest, {"a": 4, "b": 6})
        self.assertEqual(Differences(((), ())).lowest, {})
        self.assertEqual(Differences(((), ())).highest, {})
        half = (("a", "b"), (("a", "", 4), ("b", "", -2)))
        self.assertIsNone(Differences(half).lowest)
        self.assertEqual(Differences(half).highest, {"a": 4, "b": -2})
        other = (("a", "b"), (("", "a", 4), ("b", "", -2)))
        self.assertIsNone(Differences(other).lowest)
        self.assertIsNone(Differences(other).highest)

    def test_all_theories(self):
        for theory in MORE:
            found = Differences(theory)
            ways = sums(theory)
            low = {name: ways["", name] for name in theory[0]}
            high = {name: ways[name, ""] for name in theory[0]}
            if not is_satisfiable(theory) or None in low.values():
                self.assertIsNone(found.lowest)
            else:
                self.assertEqual(found.lowest, {name: -value for name, value in low.items()})
                self.assertIs(satisfies(Steps(), theory, found.lowest), True)
            if not is_satisfiable(theory) or None in high.values():
                self.assertIsNone(found.highest)
            else:
                self.assertEqual(found.highest, high)
                self.assertIs(satisfies(Steps(), theory, found.highest), True)

    def test_a_new_dict_each_time(self):
        theory = (("a",), (("a", "", 4), ("", "a", -1)))
        found = Differences(theory)
        for read in (lambda: found.lowest, lambda: found.highest):
            first = read()
            first["a"] = 99
            first["b"] = 0
            self.assertNotEqual(read(), first)
        self.assertEqual((found.lowest, found.highest), ({"a": 1}, {"a": 4}))
        self.assertEqual((found["a", ""], found["", "a"]), (4, -1))


class UnchangedTest(unittest.TestCase):
    def test_arguments_stay(self):
        theory = copy.deepcopy(CHAIN)
        found = Differences(theory)
        found["u", "z"]
        list(found)
        found + ("u", "", 1)
        self.assertEqual(theory, CHAIN)


if __name__ == "__main__":
    unittest.main()
