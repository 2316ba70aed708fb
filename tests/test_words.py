"""Points 3, 10, 13 to 20, 25 and 83 to 90: the kind words."""

import copy
import random
import unittest
from itertools import permutations
from time import perf_counter

from shadowlinks.errors import NoSolution
from shadowlinks.kinds import Kind
from shadowlinks.shadows import complete, satisfies, shadow, solve
from shadowlinks.theories import join
from shadowlinks.words import Words, solutions
from tests.kindchecks import KindChecks
from tests.test_subsets import faults
from tests.wordcases import (
    ANY, DIFFERENT, EVEN_GROUND, NONE, REPEATED, THEORIES, UNDER, all_assignments, does_hold, longest, made_machine,
    made_theories, solutions_of,
)

KIND = Words()
XY = ("x", "y")
MORE = (*THEORIES, *made_theories(3, 40))


def least_ground(theory, constraint=None):
    """The least ground up to the longest one with a solution (in which the constraint fails), or None."""
    for length in range(longest(theory) + 1):
        if any(constraint is None or not does_hold(constraint, one) for one in solutions_of(theory, length)):
            return length
    return None


class WordsChecks(KindChecks, unittest.TestCase):
    kind = KIND

    def theories(self):
        return THEORIES

    def questions(self, theory):
        maker = random.Random(2)
        found = [made_machine(maker, theory[0]) for _ in range(6)]
        return [NONE, ANY, EVEN_GROUND, *theory[1], *found]

    def retold(self, theory):
        names, machines = theory
        yield names, machines[::-1]
        yield names, (*machines, *machines, ANY)
        yield names, KIND.normal(theory)[1]
        # The same machines with a state that is not needed.
        yield names, tuple((own, (*moves, moves[0]), (*ends, ends[0])) for own, moves, ends in machines)
        if solve(KIND, theory) is None:
            yield names, (NONE,)

    def other_value(self, theory, solution):
        if not theory[0]:
            return {"": solution[""] + 1}
        word = solution[theory[0][-1]]
        turned = word[:-1] + ("a" if word[-1] == "b" else "b") if word else None
        return None if turned is None else {**solution, theory[0][-1]: turned}


class ConstraintTest(unittest.TestCase):
    def test_kind(self):
        self.assertIsInstance(KIND, Kind)
        self.assertEqual(Words.WORD, "words")
        self.assertEqual(KIND.contradiction(), ((), ((-1,),), (0,)))

    def test_names(self):
        self.assertEqual(KIND.names_in(ANY), ())
        self.assertEqual(KIND.names_in(UNDER), ("x", "y"))
        self.assertEqual(KIND.names_in((("y", "x"), ((0,) * 4,), (1,))), ("y", "x"))

    def test_valid(self):
        for machine in (ANY, NONE, EVEN_GROUND, REPEATED, DIFFERENT, UNDER, (("y",), ((-1, 0),), (0,))):
            self.assertIs(KIND.is_valid(XY, machine), True)
        self.assertIs(KIND.is_valid((), ANY), True)

    def test_invalid(self):
        for machine in (
            (("y", "x"), ((0,) * 4,), (1,)), (("x", "x"), ((0,) * 4,), (1,)), (("z",), ((0, 0),), (1,)),
            (("x", "z"), ((0,) * 4,), (1,)), (("x",), (), ()), ((), (), ()), (("x",), ((0,),), (1,)),
            (("x",), ((0, 0, 0),), (1,)), (("x",), ((0, 0), (0,)), (1, 1)), (("x",), ((0, 1),), (1,)),
            (("x",), ((0, -2),), (1,)), (("x",), ((0, 0), (2, 0)), (1, 1)), (("x",), ((0, 0),), (1, 1)),
            (("x",), ((0, 0), (0, 0)), (1,)), (("x",), ((0, 0),), ()), (("x",), ((0, 0),), (2,)), (("x",), ((0, 0),), (-1,)),
            (("x",), ((0, 0), (0, 0)), (1, 3)), ((), ((0, 0),), (1,)), (("x", "y"), ((0, 0),), (1,)),
            ((), ((),), (1,)),
        ):
            self.assertIs(KIND.is_valid(XY, machine), False, machine)
        self.assertIs(KIND.is_valid((), REPEATED), False)

    def test_holds(self):
        for machine in (ANY, NONE, EVEN_GROUND, REPEATED, DIFFERENT, UNDER):
            for length in range(5):
                for values in all_assignments(XY, length):
                    self.assertIs(KIND.holds(machine, {**values, "w": ""}), does_hold(machine, values))
        self.assertIs(KIND.holds(REPEATED, {"": 4, "x": "abab"}), True)
        self.assertIs(KIND.holds(REPEATED, {"": 3, "x": "aba"}), False)
        self.assertIs(KIND.holds(REPEATED, {"": 0, "x": ""}), True)
        self.assertIs(KIND.holds(EVEN_GROUND, {"": 7}), False)
        # The last state is an end, but it is not met.
        self.assertIs(KIND.holds((("x",), ((-1, 0), (0, 0)), (0, 1)), {"": 1, "x": "a"}), False)

    def test_rename(self):
        machine = (XY, ((0, 1, -1, 1), (1, 0, 0, -1)), (0, 1))
        turned = (XY, ((0, -1, 1, 1), (1, 0, 0, -1)), (0, 1))
        other = (("y",), ((0, -1),), (1,))
        self.assertEqual(KIND.rename((XY, (machine, other)), {"x": "y", "y": "x"}), (XY, (turned, (("x",), *other[1:]))))
        wanted = (("y", "z"), ((("y", "z"), *turned[1:]), other))
        self.assertEqual(KIND.rename((XY, (machine, other)), {"x": "z"}), wanted)
        three = (("x", "y", "z"), ((0, 1, 2, 3, -1, 1, 1, 1), *[(0,) * 8] * 3), (1, 0, 1, 0))
        moved = KIND.rename((three[0], (three,)), {"x": "y", "y": "z", "z": "x"})
        # The new x is the old z, the new y the old x, the new z the old y.
        self.assertEqual(moved[1][0][1][0], (0, 2, -1, 1, 1, 3, 1, 1))
        self.assertEqual(moved[1][0][2], three[2])

    def test_pin(self):
        machine = (XY, ((-1, 1, -1, -1), (-1, -1, -1, 2), (-1, -1, -1, -1)), (0, 0, 1))
        self.assertEqual(KIND.pin(XY, {"": 2, "x": "ab", "y": "bb"}), (XY, (machine,)))
        self.assertEqual(KIND.pin(("x",), {"": 0, "x": ""}), (("x",), ((("x",), ((-1, -1),), (1,)),)))
        self.assertEqual(KIND.pin((), {"": 1}), ((), (((), ((1,), (-1,)), (0, 1)),)))


class NormalTest(unittest.TestCase):
    def test_the_example(self):
        self.assertEqual(KIND.normal((("x",), (REPEATED,))), (("x",), (REPEATED,)))
        self.assertEqual(KIND.normal(KIND.eliminate((("x",), (REPEATED,)), "x")), ((), (EVEN_GROUND,)))

    def test_least_machines_with_the_same_solutions(self):
        for theory in MORE:
            names, machines = KIND.normal(theory)
            self.assertEqual((names, len(machines), machines[0][0]), (theory[0], 1, names))
            self.assertEqual(faults(machines[0]), [])
            for length in range(longest(theory) + 1):
                self.assertEqual(solutions_of((names, machines), length), solutions_of(theory, length))

    def test_edges(self):
        self.assertEqual(KIND.normal(((), ())), ((), (ANY,)))
        self.assertEqual(KIND.normal(((), (NONE, EVEN_GROUND))), ((), (NONE,)))
        self.assertEqual(KIND.normal((XY, ())), (XY, ((XY, ((0, 0, 0, 0),), (1,)),)))
        self.assertEqual(KIND.normal((("x",), (NONE,))), (("x",), ((("x",), ((-1, -1),), (0,)),)))

    def test_eliminating(self):
        for theory in MORE:
            for name in theory[0]:
                less = KIND.eliminate(theory, name)
                for length in range(longest(theory) + 1):
                    wanted = []
                    for one in solutions_of(theory, length):
                        rest = {key: value for key, value in one.items() if key != name}
                        if rest not in wanted:
                            wanted.append(rest)
                    found = solutions_of(less, length)
                    self.assertEqual(sorted(map(str, found)), sorted(map(str, wanted)))


class SolveTest(unittest.TestCase):
    def test_lift(self):
        for machines, value in (
            ((UNDER,), "abb"), ((DIFFERENT,), "aaa"), ((), "aaa"), ((DIFFERENT, UNDER), "bbb"),
            (((("y",), ((0, 1), (0, 2), (2, 2)), (0, 0, 1)),), "abb"),
        ):
            self.assertEqual(KIND.lift((XY, machines), "y", {"": 3, "x": "abb"}), value)
        self.assertEqual(KIND.lift((XY, (UNDER,)), "x", {"": 3, "y": "abb"}), "aaa")
        self.assertEqual(KIND.lift((XY, ()), "x", {"": 0, "y": ""}), "")
        for machines in ((NONE,), (EVEN_GROUND,), (REPEATED,), ((("y",), ((-1, -1),), (1,)),)):
            with self.assertRaises(NoSolution):
                KIND.lift((XY, machines), "y", {"": 3, "x": "aba"})

    def test_lift_is_the_first_word(self):
        for theory in MORE:
            for name in theory[0]:
                others = tuple(other for other in theory[0] if other != name)
                for length in range(min(longest(theory), 3) + 1):
                    for given in all_assignments(others, length):
                        fit = [
                            one[name] for one in solutions_of(theory, length)
                            if all(one[other] == given[other] for other in others)
                        ]
                        if fit:
                            self.assertEqual(KIND.lift(theory, name, given), min(fit))
                        else:
                            with self.assertRaises(NoSolution):
                                KIND.lift(theory, name, given)

    def test_first_solutions(self):
        for theory in MORE:
            found = solve(KIND, theory)
            length = least_ground(theory)
            if length is not None:
                self.assertEqual(found, solutions_of(theory, length)[0])
            elif found is not None:
                self.assertGreater(found[""], longest(theory))
                self.assertTrue(all(does_hold(machine, found) for machine in theory[1]))

    def test_examples(self):
        self.assertEqual(solve(KIND, (XY, (DIFFERENT,))), {"": 1, "x": "a", "y": "b"})
        self.assertEqual(solve(KIND, (XY, ())), {"": 0, "x": "", "y": ""})
        theory = (XY, (REPEATED, UNDER))
        self.assertEqual(complete(KIND, theory, {"": 4}), {"": 4, "x": "abab", "y": "abab"})
        self.assertEqual(complete(KIND, theory, {"": 2, "y": "bb"}), {"": 2, "x": "ab", "y": "bb"})
        for given in ({"": 3}, {"": 2, "y": "ba"}, {"": 2, "x": "ab", "y": "aa"}):
            with self.assertRaises(NoSolution):
                complete(KIND, theory, given)
        self.assertEqual(shadow(KIND, theory, shown=()), ((), (EVEN_GROUND,)))

    def test_ground(self):
        self.assertEqual(KIND.ground(((), ())), {"": 0})
        self.assertEqual(KIND.ground(((), (EVEN_GROUND,))), {"": 0})
        three = ((), ((1,), (2,), (0,)), (0, 0, 1))
        self.assertEqual(KIND.ground(((), (three,))), {"": 2})
        odd = ((), ((1,), (0,)), (0, 1))
        self.assertEqual(KIND.ground(((), (three, odd))), {"": 5})
        self.assertIsNone(KIND.ground(((), (odd, EVEN_GROUND))))
        self.assertIsNone(KIND.ground(((), (NONE,))))
        self.assertIsNone(KIND.ground(((), (((), ((1,), (-1,)), (0, 0)),))))


class CertificateTest(unittest.TestCase):
    def test_counterexamples_have_the_least_ground(self):
        maker = random.Random(5)
        for theory in MORE:
            for constraint in (NONE, EVEN_GROUND, *[made_machine(maker, theory[0]) for _ in range(5)]):
                found = KIND.counterexample(theory, constraint)
                length = least_ground(theory, constraint)
                if length is not None:
                    self.assertEqual(found[""], length)
                    self.assertIn(found, solutions_of(theory, length))
                    self.assertFalse(does_hold(constraint, found))
                elif found is not None:
                    self.assertGreater(found[""], longest(theory))

    def test_certificates(self):
        for theory in MORE:
            for constraint in (ANY, NONE, *theory[1]):
                found = KIND.certificate(theory, constraint)
                if found is not None:
                    self.assertEqual(len(found), len(set(found)))
                    self.assertIs(KIND.accepts(theory, constraint, found), True)
                    self.assertIs(KIND.accepts(theory, constraint, found[::-1] + found), True)
                    for at in range(len(found)):
                        # All of them can be reached, so none can be left out.
                        fewer = found[:at] + found[at + 1:]
                        self.assertIs(KIND.accepts(theory, constraint, fewer), False)

    def check(self, theory, constraint, rows):
        for certificate, wanted in rows:
            self.assertIs(KIND.accepts(theory, constraint, certificate), wanted, (constraint, certificate))

    def test_state_tuples(self):
        theory = (("x",), (REPEATED,))
        right = ((0, 0), (1, 1))
        self.check(theory, EVEN_GROUND, (
            (right, True), (right[::-1], True), (right + right, True), ((), False), (right[:1], False), (right[1:], False),
            # More state tuples, if they are closed and none of them is bad.
            ((*right, (1, 0)), False), ((*right, (1, 0), (0, 1)), False), ((*right, (1, -1)), False),
            # Wrong lengths, and states that do not exist.
            ((*right, ()), False), ((*right, (0,)), False), ((*right, (0, 0, 0)), False), ((*right, (2, 0)), False),
            ((*right, (-1, 0)), False), ((*right, (0, 2)), False), ((*right, (1, -2)), False), (((0, 0), (1, 1), (-2, 0)), False),
        ))
        self.check(theory, NONE, ((((0, 0), (1, -1), (0, -1)), False), (((0, 0),), False)))
        self.assertEqual(set(KIND.certificate(theory, EVEN_GROUND)), set(right))
        # The lengths are those of words without an end in the theory: nothing bad can be reached.
        odd = ((), ((1,), (0,)), (0, 1))
        self.check((("x",), (REPEATED, odd)), NONE, (
            (((0, 0, 0), (1, 1, -1), (0, 0, -1)), True), (((0, 0, 0), (1, 1, 0), (0, 0, -1)), False),
            (((0, 0, 0), (1, 1, -1)), False),
        ))

    def test_the_last_integer_stays_at_minus_one(self):
        theory = (("x",), ((("x",), ((0, 1), (1, 1)), (0, 0)),))
        self.check(theory, REPEATED, (
            (((0, 0), (0, 1), (0, -1), (1, -1), (1, 0)), False),
            (((0, 0), (0, 1), (1, -1), (0, -1), (1, 0), (1, 1)), True),
        ))
        # A bad tuple is one in which all machines of the theory are at ends.
        ends = (("x",), ((("x",), ((0, 1), (1, 1)), (0, 1)),))
        self.check(ends, REPEATED, ((((0, 0), (0, 1), (1, -1), (0, -1), (1, 0), (1, 1)), False),))

    def test_more_than_what_can_be_reached(self):
        theory = (("x",), ((("x",), ((0, 0), (1, 1)), (0, 1)),))
        self.check(theory, NONE, (
            (((0, 0), (0, -1)), True), (((0, 0), (0, -1), (1, 0), (1, -1)), False),
            (((0, 0), (0, -1), (0, -1)), True),
        ))
        self.check(theory, ANY, ((((0, 0), (1, 0)), True), (((0, 0), (1, 0), (1, -1)), False), (((1, 0),), False)))

    def test_integers_that_are_no_states(self):
        # Read from the end, -1 and -2 would be states.
        for end in (0, 1):
            theory = (("x",), ((("x",), ((0, 0),), (end,)),))
            self.check(theory, ANY, (
                (((0, 0),), True), (((0, 0), (-1, 0)), False), (((0, 0), (0, -2)), False), (((0, 0), (1, 0)), False),
                (((0, 0), (0, 1)), False), (((0, 0), (0, -1)), end == 0),
            ))

    def test_columns_are_those_of_all_names(self):
        theory = (XY, (DIFFERENT,))
        found = KIND.certificate(theory, ((), ((1,), (1,)), (0, 1)))
        self.assertEqual(set(found), {(0, 0), (0, 1), (1, 1)})
        swapped = KIND.certificate((XY, (UNDER,)), (XY, ((0, 0, -1, 0),), (1,)))
        self.assertEqual(swapped, ((0, 0),))
        self.assertIsNotNone(KIND.counterexample((XY, (UNDER,)), (XY, ((0, -1, 0, 0),), (1,))))

    def test_no_machines(self):
        self.check(((), ()), ANY, ((((0,),), True), ((), False), (((0,), (-1,)), False), (((),), False)))
        self.assertEqual(KIND.counterexample(((), ()), NONE), {"": 0})
        self.assertEqual(KIND.counterexample(((), ()), EVEN_GROUND), {"": 1})
        self.assertEqual(KIND.counterexample((("x",), ()), EVEN_GROUND)[""], 1)


class SolutionsTest(unittest.TestCase):
    def test_examples(self):
        self.assertEqual(list(solutions((XY, (UNDER,)), 1)), [
            {"": 1, "x": "a", "y": "a"}, {"": 1, "x": "a", "y": "b"}, {"": 1, "x": "b", "y": "b"},
        ])
        self.assertEqual(list(solutions((("x",), (REPEATED,)), 2)), [{"": 2, "x": "ab"}])
        self.assertEqual(list(solutions((("x",), (REPEATED,)), 3)), [])
        self.assertEqual(list(solutions((("x",), (REPEATED,)), 0)), [{"": 0, "x": ""}])
        self.assertEqual(list(solutions(((), ()), 3)), [{"": 3}])
        self.assertEqual(list(solutions(((), (EVEN_GROUND,)), 3)), [])

    def test_all(self):
        for theory in (*MORE, *made_theories(6, 20, 3)):
            for length in range(4):
                found = list(solutions(theory, length))
                self.assertEqual(found, solutions_of(theory, length))

    def test_new_dicts_and_arguments(self):
        theory = copy.deepcopy((XY, (UNDER,)))
        for solution in solutions(theory, 2):
            solution[""] = 9
            solution["x"] = "b"
        self.assertEqual(theory, (XY, (UNDER,)))
        found = list(solutions(theory, 2))
        self.assertEqual(found, solutions_of(theory, 2))
        self.assertEqual(len({id(one) for one in found}), 9)


class QuickTest(unittest.TestCase):
    def test_limits(self):
        maker = random.Random(9)
        names = ("x", "y", "z")
        start = perf_counter()
        for _ in range(4):
            theory = (names, tuple(made_machine(maker, names) for _ in range(2)))
            found = KIND.normal(theory)
            for order in permutations(names):
                self.assertEqual(shadow(KIND, found, shown=order[:2]), shadow(KIND, theory, shown=order[:2]))
            solution = solve(KIND, theory)
            self.assertEqual(solution is None, list(found[1][0][2]) == [0])
            self.assertEqual(list(solutions(theory, 3)), solutions_of(theory, 3))
            asked = made_machine(maker, names)
            shown = KIND.certificate(theory, asked)
            self.assertTrue(shown is None or KIND.accepts(theory, asked, shown))
        # A link: shadows of parts, joined.
        sides = (("v", "w"), ("w", "x"), ("x", "y"), ("v", "z"))
        parts = [((*pair, "zz.h"), tuple(made_machine(maker, (*pair, "zz.h")) for _ in range(2))) for pair in sides]
        both = join([shadow(KIND, part, shown=pair) for part, pair in zip(parts, sides)])
        solution = solve(KIND, both)
        self.assertTrue(solution is None or satisfies(KIND, both, solution))
        KIND.normal(both)
        self.assertLess(perf_counter() - start, 5)

    def test_shadows_of_machines_with_many_sets_of_states(self):
        names = ("x", "y", "z")
        first = (names, ((0, 1, 0, -1, 2, 2, 2, 1), (1, -1, 1, 0, 1, -1, 2, 1), (0, 0, 2, 2, 0, 1, 1, -1)), (1, 1, 1))
        second = (names, ((0, 0, 2, 1, 1, 0, 0, 1), (2, 1, 2, 0, 1, 1, 2, 2), (1, 2, 1, 2, 0, 0, 1, 2)), (1, 0, 1))
        theory = (names, (first, second))
        start = perf_counter()
        for order in permutations(names):
            left = theory
            for at, name in enumerate(order):
                left = KIND.eliminate(left, name)
                self.assertEqual(KIND.normal(left), shadow(KIND, theory, shown=order[at + 1:]))
        self.assertLess(perf_counter() - start, 5)


if __name__ == "__main__":
    unittest.main()
