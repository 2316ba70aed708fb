"""Points 11, 13, 14, 16 to 19 and 23: theories of any kind, tested with two small kinds."""

import copy
import random
import unittest
from itertools import permutations, product

from shadowlinks.errors import InvalidConstraint, InvalidTheory, NoSolution
from shadowlinks.shadows import check_theory, complete, follows, implies, satisfies, shadow, solve
from tests.smallkinds import Sequences, Tables

KIND = Tables()
WORDS = Sequences()
EVEN = (("a", "b"), ((0, 0), (0, 2), (1, 1), (2, 0), (2, 2)))
LESS = (("b", "c"), ((0, 1), (0, 2), (1, 2)))
NOT_ZERO = (("a",), ((1,), (2,)))
THEORY = (("a", "b", "c"), (EVEN, LESS))
CLASH = (("a",), (NOT_ZERO, (("a",), ((0,),))))


def some_theories():
    """Theories over three names with zero to three tables, always the same ones."""
    maker = random.Random(7)
    for count in range(40):
        constraints = []
        for _ in range(count % 4):
            names = tuple(sorted(maker.sample(("a", "b", "c"), maker.randrange(1, 4))))
            rows = [row for row in product((0, 1, 2), repeat=len(names)) if maker.randrange(3)]
            constraints.append((names, tuple(rows)))
        yield ("a", "b", "c"), tuple(constraints)


class CheckTest(unittest.TestCase):
    def test_theories(self):
        for theory in (THEORY, CLASH, ((), ()), (("a", "p.q.x"), ()), ((), (((), ()), ((), ((),))))):
            self.assertIsNone(check_theory(KIND, theory))

    def test_bad_names(self):
        bad = (("b", "a"), ("a", "a"), ("A",), ("",), ("a", "b."), ("a..b",), ("1",), ("a", "c", "b"), ("abcdefghi",))
        for names in bad:
            with self.assertRaises(InvalidTheory, msg=names):
                check_theory(KIND, (names, ()))

    def test_the_first_bad_constraint(self):
        wrong = (("a",), ((3,),))
        for constraints, index in (
            ((wrong,), 0), ((NOT_ZERO, wrong), 1), ((NOT_ZERO, LESS, wrong), 1), ((EVEN, NOT_ZERO, wrong, wrong), 2),
        ):
            with self.assertRaises(InvalidConstraint) as caught:
                check_theory(KIND, (("a", "b"), constraints))
            self.assertEqual(caught.exception.index, index)

    def test_names_come_before_constraints(self):
        for names in (("b", "a"), ("a", "a"), ("A",)):
            with self.assertRaises(InvalidTheory):
                check_theory(KIND, (names, (LESS,)))


class SatisfiesTest(unittest.TestCase):
    def test_all_constraints_count(self):
        self.assertIs(satisfies(KIND, THEORY, {"a": 2, "b": 0, "c": 1}), True)
        self.assertIs(satisfies(KIND, THEORY, {"a": 1, "b": 0, "c": 1}), False)
        self.assertIs(satisfies(KIND, THEORY, {"a": 2, "b": 0, "c": 0}), False)

    def test_other_names_do_not_matter(self):
        self.assertIs(satisfies(KIND, THEORY, {"a": 2, "b": 0, "c": 1, "d": 0}), True)

    def test_no_constraints(self):
        self.assertIs(satisfies(KIND, ((), ()), {}), True)
        self.assertIs(satisfies(KIND, (("a",), ()), {"a": 1}), True)
        self.assertIs(satisfies(KIND, ((), (KIND.contradiction(),)), {}), False)

    def test_the_ground(self):
        theory = (("x",), ((("x",), ((1, "a"), (2, "ab"))),))
        self.assertIs(satisfies(WORDS, theory, {"": 2, "x": "ab"}), True)
        self.assertIs(satisfies(WORDS, theory, {"": 2, "x": "aa"}), False)


class ShadowTest(unittest.TestCase):
    def test_ordinary(self):
        self.assertEqual(shadow(KIND, THEORY, shown=["c"]), (("c",), ((("c",), ((1,), (2,))),)))
        rows = ((0, 1), (0, 2), (1, 2), (2, 1), (2, 2))
        self.assertEqual(shadow(KIND, THEORY, shown=("a", "c")), (("a", "c"), ((("a", "c"), rows),)))

    def test_all_and_no_names_shown(self):
        self.assertEqual(shadow(KIND, THEORY, shown=("a", "b", "c")), KIND.normal(THEORY))
        self.assertEqual(shadow(KIND, THEORY, shown=()), ((), (((), ((),)),)))
        self.assertEqual(shadow(KIND, CLASH, shown=[]), ((), (((), ()),)))
        self.assertEqual(shadow(KIND, ((), ()), shown=[]), ((), (((), ((),)),)))

    def test_any_order_of_the_shown_names(self):
        for shown in permutations(("a", "c")):
            self.assertEqual(shadow(KIND, THEORY, shown=shown), shadow(KIND, THEORY, shown=["a", "c"]))

    def test_the_shadow_has_the_restricted_solutions(self):
        for theory in some_theories():
            for shown in ((), ("a",), ("b",), ("c",), ("a", "b"), ("a", "c"), ("b", "c"), ("a", "b", "c")):
                wanted = KIND.table(shown, KIND.solutions(*theory))
                self.assertEqual(shadow(KIND, theory, shown=list(shown)), wanted)

    def test_the_shadow_is_a_normal_form(self):
        class Marked(Tables):
            def normal(self, theory):
                return "normal", theory

        self.assertEqual(shadow(Marked(), THEORY, shown=["a", "b", "c"]), ("normal", THEORY))
        self.assertEqual(shadow(Marked(), THEORY, shown=["c"])[0], "normal")

    def test_shown_stays_as_it_was(self):
        shown = ["c", "a"]
        shadow(KIND, THEORY, shown=shown)
        self.assertEqual(shown, ["c", "a"])


class SolveTest(unittest.TestCase):
    def test_first_solutions(self):
        self.assertEqual(solve(KIND, THEORY), {"a": 0, "b": 0, "c": 1})
        self.assertEqual(solve(KIND, (("a", "b"), (NOT_ZERO, EVEN))), {"a": 1, "b": 1})
        self.assertEqual(solve(KIND, (("a", "b"), ())), {"a": 0, "b": 0})
        self.assertEqual(solve(KIND, ((), ())), {})

    def test_no_solution(self):
        self.assertIsNone(solve(KIND, CLASH))
        self.assertIsNone(solve(KIND, ((), (((), ()),))))

    def test_least_values_in_ascending_order_of_names(self):
        for theory in some_theories():
            solutions = KIND.solutions(*theory)
            self.assertEqual(solve(KIND, theory), solutions[0] if solutions else None)

    def test_the_ground_is_least(self):
        theory = (("x", "y"), ((("x",), ((2, "ba"), (3, "aaa"))), (("y",), ((1, "a"), (2, "bb"), (3, "aab")))))
        self.assertEqual(solve(WORDS, theory), {"": 2, "x": "ba", "y": "bb"})
        self.assertEqual(solve(WORDS, (("x",), ())), {"": 0, "x": ""})
        self.assertEqual(solve(WORDS, ((), ())), {"": 0})
        self.assertEqual(solve(WORDS, ((), (((), ((3,), (2,))),))), {"": 2})
        self.assertIsNone(solve(WORDS, (("x",), ((("x",), ()),))))

    def test_results_are_new(self):
        first = solve(KIND, THEORY)
        first["a"] = 9
        self.assertEqual(solve(KIND, THEORY), {"a": 0, "b": 0, "c": 1})

    def test_the_dict_of_the_kind_stays_as_it_was(self):
        kept = {}

        class Keeping(Tables):
            def ground(self, theory):
                return kept

        self.assertEqual(solve(Keeping(), THEORY), {"a": 0, "b": 0, "c": 1})
        self.assertEqual(kept, {})


class CompleteTest(unittest.TestCase):
    def test_ordinary(self):
        self.assertEqual(complete(KIND, THEORY, {"a": 2}), {"a": 2, "b": 0, "c": 1})
        self.assertEqual(complete(KIND, THEORY, {"b": 1}), {"a": 1, "b": 1, "c": 2})
        self.assertEqual(complete(KIND, THEORY, {"c": 2, "a": 1}), {"a": 1, "b": 1, "c": 2})
        self.assertEqual(complete(KIND, THEORY, {}), solve(KIND, THEORY))

    def test_all_names_have_values(self):
        self.assertEqual(complete(KIND, THEORY, {"a": 2, "b": 0, "c": 2}), {"a": 2, "b": 0, "c": 2})
        with self.assertRaises(NoSolution):
            complete(KIND, THEORY, {"a": 1, "b": 0, "c": 2})
        with self.assertRaises(NoSolution):
            complete(KIND, ((), (((), ()),)), {})
        self.assertEqual(complete(KIND, ((), ()), {}), {})

    def test_no_extension(self):
        for assignment in ({"b": 2}, {"c": 0}, {"a": 1, "c": 1}):
            before = dict(assignment)
            with self.assertRaises(NoSolution):
                complete(KIND, THEORY, assignment)
            self.assertEqual(assignment, before)
        with self.assertRaises(NoSolution):
            complete(KIND, CLASH, {})

    def test_every_assignment_of_some_names(self):
        for theory in some_theories():
            for row in product((None, 0, 2), repeat=3):
                given = {name: value for name, value in zip("abc", row) if value is not None}
                fitting = [full for full in KIND.solutions(*theory) if given.items() <= full.items()]
                if fitting:
                    self.assertEqual(complete(KIND, theory, given), fitting[0])
                else:
                    with self.assertRaises(NoSolution):
                        complete(KIND, theory, given)

    def test_the_ground_is_given(self):
        theory = (("x", "y"), ((("x", "y"), ((1, "a", "b"), (2, "ba", "bb"), (2, "ab", "bb"))),))
        self.assertEqual(complete(WORDS, theory, {"": 2}), {"": 2, "x": "ab", "y": "bb"})
        self.assertEqual(complete(WORDS, theory, {"": 2, "x": "ba"}), {"": 2, "x": "ba", "y": "bb"})
        self.assertEqual(complete(WORDS, theory, {"": 1, "y": "b"}), {"": 1, "x": "a", "y": "b"})
        for given in ({"": 0}, {"": 3, "x": "aaa"}, {"": 1, "x": "b"}, {"": 1, "x": "a", "y": "a"}):
            with self.assertRaises(NoSolution):
                complete(WORDS, theory, given)

    def test_the_result_is_new(self):
        given = {"a": 2, "b": 0, "c": 2}
        result = complete(KIND, THEORY, given)
        self.assertIsNot(result, given)
        self.assertEqual(given, {"a": 2, "b": 0, "c": 2})
        part = {"a": 2}
        complete(KIND, THEORY, part)
        self.assertEqual(part, {"a": 2})


class FollowsTest(unittest.TestCase):
    def test_follows(self):
        self.assertIs(follows(KIND, THEORY, (("c",), ((1,), (2,)))), True)
        self.assertIs(follows(KIND, THEORY, (("a", "b"), EVEN[1])), True)
        self.assertIs(follows(KIND, THEORY, (("c",), ((2,),))), False)
        self.assertIs(follows(KIND, ((), ()), ((), ((),))), True)

    def test_the_contradiction_follows_exactly_without_solutions(self):
        self.assertIs(follows(KIND, CLASH, KIND.contradiction()), True)
        self.assertIs(follows(KIND, CLASH, NOT_ZERO), True)
        for theory in some_theories():
            self.assertIs(follows(KIND, theory, KIND.contradiction()), solve(KIND, theory) is None)

    def test_implies(self):
        weaker = (("b", "c"), ((("c",), ((1,), (2,))), (("b",), ((0,), (1,)))))
        self.assertIs(implies(KIND, THEORY, weaker), True)
        self.assertIs(implies(KIND, THEORY, (("c",), (*weaker[1], (("c",), ((1,),))))), False)
        self.assertIs(implies(KIND, THEORY, (("c",), ((("c",), ((1,),)), *weaker[1]))), False)
        self.assertIs(implies(KIND, THEORY, (("a",), ())), True)
        self.assertIs(implies(KIND, THEORY, THEORY), True)
        self.assertIs(implies(KIND, CLASH, ((), (KIND.contradiction(),))), True)
        self.assertIs(implies(KIND, THEORY, ((), (KIND.contradiction(),))), False)


class UnchangedTest(unittest.TestCase):
    def test_theories_stay_as_they_were(self):
        theory, other = copy.deepcopy(THEORY), copy.deepcopy(CLASH)
        check_theory(KIND, theory)
        shadow(KIND, theory, shown=["a"])
        solve(KIND, theory)
        complete(KIND, theory, {"a": 0})
        implies(KIND, theory, other)
        self.assertEqual((theory, other), (THEORY, CLASH))


if __name__ == "__main__":
    unittest.main()
