"""Points 5 to 10, 13 to 16, 23, 24 and 92 to 97: bridges between the kinds."""

import copy
import random
import unittest
from itertools import product
from time import perf_counter

from shadowlinks.bitlists import each_solution
from shadowlinks.bits import Bits
from shadowlinks.errors import InvalidConstraint
from shadowlinks.linebridge import lines_of_steps
from shadowlinks.lines import Lines
from shadowlinks.paritybridge import bits_of_parities, parities_of_bits
from shadowlinks.rowbridge import rows_of_bits
from shadowlinks.rows import Rows
from shadowlinks.shadows import check_theory, complete, follows, satisfies, shadow, solve
from shadowlinks.spreads import solutions_within
from shadowlinks.steps import Steps
from shadowlinks.wholes import Wholes
from shadowlinks.wordbridge import words_of_bits
from shadowlinks.words import Words
from shadowlinks.words import solutions as word_solutions
from tests import bitcases, stepcases, wordcases
from tests.bitcases import A, B, C, NOT_A, NOT_B, NOT_C, made_clause
from tests.kindchecks import subsets
from tests.texts import check_tuples
from tests.wholecases import eq, mod

GROUND_1 = ((), ((1,), (-1,)), (0, 1))
BIT_THEORIES = (*bitcases.THEORIES, *bitcases.made_theories(31, 30, 4))
NO_PARITY = ((), 0, 1)


def parity_theories(seed, count, most=4):
    """Theories whose constraints are parities or, now and then, the contradiction."""
    maker = random.Random(seed)
    for number in range(count):
        names = tuple("wxyz"[:number % (most + 1)])
        constraints = []
        for _ in range(maker.randrange(6)):
            chosen = sorted(maker.sample(names, maker.randrange(len(names) + 1)))
            sum_of = tuple((name, maker.choice((-3, -2, -1, 1, 2, 3, 4, 5))) for name in chosen)
            constraints.append((sum_of, 2, maker.randrange(-5, 6) if sum_of else 2 * maker.randrange(-2, 3)))
        if maker.randrange(9) == 0:
            constraints.insert(maker.randrange(len(constraints) + 1), NO_PARITY)
        yield names, tuple(constraints)


PARITY_THEORIES = (
    ((), ()),
    ((), (NO_PARITY,)),
    ((), (mod(1, 2),)),
    ((), (mod(4, 2),)),
    (("x", "y"), ()),
    (("x", "y"), (mod(1, 2, x=1, y=1),)),
    (("x", "y"), (mod(-3, 2, x=-5, y=4),)),
    (("x", "y"), (mod(1, 2, x=2, y=-4),)),
    (("x", "y"), (mod(0, 2, x=2, y=-4),)),
    (("x", "y"), (mod(0, 2, x=1, y=1), mod(1, 2, x=3, y=7))),
    (("x", "y"), (mod(0, 2, x=1, y=1), NO_PARITY)),
    *parity_theories(5, 40),
)


class BridgeChecks:
    """Tests for a class with `source`, `target`, `cross(theory)` and `theories()`."""

    def test_valid_theories_over_the_same_names(self):
        for theory in self.theories():
            kept = copy.deepcopy(theory)
            found = self.cross(theory)
            self.assertEqual(theory, kept)
            self.assertEqual(found[0], theory[0])
            self.assertIsNone(check_theory(self.target, found))
            check_tuples(self, found)

    def test_crossing_and_shadows(self):
        for theory in self.theories():
            for shown in subsets(theory[0]):
                before = self.target.normal(self.cross(shadow(self.source, theory, shown=shown)))
                after = shadow(self.target, self.cross(theory), shown=shown)
                self.assertEqual(before, after, (theory, shown))

    def test_satisfiable_on_both_sides(self):
        found = set()
        for theory in self.theories():
            first = solve(self.source, theory)
            found.add(first is None)
            self.assertEqual(solve(self.target, self.cross(theory)) is None, first is None)
        self.assertEqual(found, {True, False})


class RowBridgeTest(BridgeChecks, unittest.TestCase):
    source, target = Bits(), Rows()

    def cross(self, theory):
        return rows_of_bits(theory)

    def theories(self):
        return BIT_THEORIES

    def test_examples(self):
        theory = (("a", "b"), ((A, NOT_B), (NOT_A,)))
        columns = ((("a",), ((0,), (1,))), (("b",), ((0,), (1,))))
        tables = ((("a", "b"), ((0, 0), (1, 0), (1, 1))), (("a",), ((0,),)))
        self.assertEqual(rows_of_bits(theory), (("a", "b"), (*columns, *tables)))

    def test_edges(self):
        self.assertEqual(rows_of_bits(((), ())), ((), ()))
        self.assertEqual(rows_of_bits(((), ((),))), ((), (((), ()),)))
        self.assertEqual(rows_of_bits((("a",), ((),))), (("a",), ((("a",), ((0,), (1,))), ((), ()))))
        self.assertEqual(rows_of_bits((("a.b",), ())), (("a.b",), ((("a.b",), ((0,), (1,))),)))

    def test_the_same_solutions(self):
        for theory in BIT_THEORIES:
            rows = tuple(tuple(one.values()) for one in bitcases.solutions(theory))
            self.assertEqual(Rows().normal(rows_of_bits(theory)), (theory[0], ((theory[0], rows),)))

    def test_the_order_of_the_clauses(self):
        for theory in BIT_THEORIES:
            tables = rows_of_bits(theory)[1][len(theory[0]):]
            self.assertEqual(len(tables), len(theory[1]))
            for clause, (names, rows) in zip(theory[1], tables):
                self.assertEqual(names, Bits().names_in(clause))
                every = product((0, 1), repeat=len(names))
                self.assertEqual(rows, tuple(row for row in every if Bits().holds(clause, dict(zip(names, row)))))


class WordBridgeTest(BridgeChecks, unittest.TestCase):
    source, target = Bits(), Words()

    def cross(self, theory):
        return words_of_bits(theory)

    def theories(self):
        return BIT_THEORIES

    def test_examples(self):
        theory = (("a", "b"), ((A, NOT_B), (NOT_A,)))
        machines = (
            (("a", "b"), ((1, -1, 1, 1), (-1, -1, -1, -1)), (0, 1)), (("a",), ((1, -1), (-1, -1)), (0, 1)),
        )
        self.assertEqual(words_of_bits(theory), (("a", "b"), (GROUND_1, *machines)))

    def test_edges(self):
        self.assertEqual(words_of_bits(((), ())), ((), (GROUND_1,)))
        self.assertEqual(words_of_bits(((), ((),))), ((), (GROUND_1, ((), ((-1,), (-1,)), (0, 1)))))
        self.assertEqual(words_of_bits((("a", "c"), ())), (("a", "c"), (GROUND_1,)))

    def test_the_ground_is_1(self):
        self.assertEqual(solve(Words(), words_of_bits(((), ()))), {"": 1})
        for theory in BIT_THEORIES[:20]:
            found = words_of_bits(theory)
            for length in (0, 2, 3):
                self.assertEqual(wordcases.solutions_of(found, length), [])
            self.assertIs(follows(Words(), found, GROUND_1), True)

    def test_the_same_solutions(self):
        for theory in BIT_THEORIES:
            wanted = [{"": 1, **{n: "ab"[v] for n, v in one.items()}} for one in bitcases.solutions(theory)]
            self.assertEqual(list(word_solutions(words_of_bits(theory), 1)), wanted)


class LineBridgeTest(BridgeChecks, unittest.TestCase):
    source, target = Steps(), Lines()

    def cross(self, theory):
        return lines_of_steps(theory)

    def theories(self):
        return (*stepcases.THEORIES, *stepcases.made_theories(33, 30))

    def test_examples(self):
        theory = (("a", "b"), (("b", "a", 3), ("a", "b", -2), ("a", "", 5), ("", "b", -4), ("", "", 7), ("", "", -1)))
        lines = (
            ((("a", -1), ("b", 1)), "<=", 3), ((("a", 1), ("b", -1)), "<=", -2), ((("a", 1),), "<=", 5),
            ((("b", -1),), "<=", -4), ((), "<=", 7), ((), "<=", -1),
        )
        self.assertEqual(lines_of_steps(theory), (("a", "b"), lines))
        self.assertEqual(lines_of_steps(((), ())), ((), ()))

    def test_the_integers_among_the_solutions(self):
        for theory in stepcases.made_theories(34, 40, 3):
            for values in product((-2, 0, 1), repeat=len(theory[0])):
                one = dict(zip(theory[0], values))
                fraction = {name: (value, 1) for name, value in one.items()}
                wanted = satisfies(Steps(), theory, one)
                self.assertIs(satisfies(Lines(), lines_of_steps(theory), fraction), wanted)


class ParityBridgeTest(BridgeChecks, unittest.TestCase):
    source, target = Wholes(), Bits()

    def cross(self, theory):
        return bits_of_parities(theory)

    def theories(self):
        return PARITY_THEORIES

    def test_examples(self):
        odd = (("x", "y"), (mod(1, 2, x=1, y=1),))
        clauses = ((("x", 0), ("y", 0)), (("x", 1), ("y", 1)))
        self.assertEqual(bits_of_parities(odd), (("x", "y"), clauses))
        even = (("x", "y"), (mod(-4, 2, x=-3, y=7),))
        self.assertEqual(bits_of_parities(even), (("x", "y"), ((("x", 0), ("y", 1)), (("x", 1), ("y", 0)))))
        mixed = (("x", "y", "z"), (mod(7, 2, x=2, y=-1, z=4), mod(0, 2, x=9)))
        self.assertEqual(bits_of_parities(mixed), (("x", "y", "z"), ((("y", 1),), (("x", 0),))))

    def test_no_odd_coefficient(self):
        for rest in (-3, -1, 1, 5):
            for own in (mod(rest, 2, x=2), mod(rest, 2, x=-4, y=6), mod(rest, 2)):
                self.assertEqual(bits_of_parities((("x", "y"), (own,))), (("x", "y"), ((),)))
                self.assertEqual(bits_of_parities((("x", "y"), ((*own[:2], rest + 1),))), (("x", "y"), ()))

    def test_the_contradiction(self):
        self.assertEqual(bits_of_parities(((), (NO_PARITY,))), ((), ((),)))
        theory = (("x",), (mod(1, 2, x=1), NO_PARITY, mod(0, 2, x=1)))
        self.assertEqual(bits_of_parities(theory), (("x",), ((("x", 1),), (), (("x", 0),))))

    def test_clauses_over_all_odd_names(self):
        for theory in PARITY_THEORIES:
            clauses = list(bits_of_parities(theory)[1])
            for sum_of, modulus, rest in theory[1]:
                odd = tuple(name for name, number in sum_of if number % 2)
                if modulus == 0 or odd == ():
                    wanted = [()] if rest % 2 else []
                else:
                    rows = [row for row in product((0, 1), repeat=len(odd)) if (sum(row) - rest) % 2]
                    wanted = sorted(tuple((n, 1 - v) for n, v in zip(odd, row)) for row in rows)
                self.assertEqual(clauses[:len(wanted)], wanted)
                del clauses[:len(wanted)]
            self.assertEqual(clauses, [])

    def test_the_solutions_even_and_odd(self):
        for theory in PARITY_THEORIES:
            found = {tuple(v % 2 for v in one.values()) for one in solutions_within(theory, low=-1, high=2)}
            wanted = sorted(tuple(one.values()) for one in each_solution(bits_of_parities(theory)))
            self.assertEqual(sorted(found), wanted)

    def test_other_constraints(self):
        good = mod(1, 2, x=1)
        for wrong in (
            eq(1, x=1), eq(0), eq(2), eq(-1), mod(1, 3, x=1), mod(1, 1, x=1), mod(1, 4, x=2), mod(0, 6), eq(1, x=2),
        ):
            for constraints, index in (
                ((wrong,), 0), ((wrong, good), 0), ((good, wrong), 1), ((good, NO_PARITY, good, wrong, wrong), 3),
                ((NO_PARITY, wrong), 1),
            ):
                with self.assertRaises(InvalidConstraint) as caught:
                    bits_of_parities((("x",), constraints))
                self.assertEqual(caught.exception.index, index)


class ParitiesTest(unittest.TestCase):
    def check(self, theory):
        """What point 97 says, by trying all parities over the names."""
        names, wholes = theory[0], Wholes()
        found = parities_of_bits(theory)
        check_tuples(self, found)
        every = [
            (tuple((name, 1) for name, own in zip(names, row) if own), 2, rest)
            for row in product((0, 1), repeat=len(names)) for rest in (0, 1)
        ]
        ones = bitcases.solutions(theory)
        follow = [own for own in every if all(wholes.holds(own, one) for one in ones)]
        self.assertEqual(found, wholes.normal((names, tuple(follow))), theory)
        if not ones:
            self.assertEqual(found, (names, (NO_PARITY,)))
            return
        self.assertEqual(found[1], tuple(sorted(found[1])))
        for at, (sum_of, modulus, rest) in enumerate(found[1]):
            self.assertTrue(sum_of and {number for _, number in sum_of} == {1} and modulus == 2 and rest in (0, 1))
            others = [name for one in (*found[1][:at], *found[1][at + 1:]) for name, _ in one[0]]
            self.assertNotIn(sum_of[0][0], others)

    def test_all_parities_that_follow(self):
        for theory in (*BIT_THEORIES, *bitcases.made_theories(36, 80, 4)):
            kept = copy.deepcopy(theory)
            self.check(theory)
            self.assertEqual(theory, kept)

    def test_sparse_theories(self):
        maker = random.Random(37)
        for count in range(1, 12):
            names = tuple("abcd")
            rows = maker.sample(list(product((0, 1), repeat=4)), count)
            every = [one for one in bitcases.all_assignments(names) if tuple(one.values()) not in rows]
            self.check((names, tuple(tuple((name, 1 - one[name]) for name in names) for one in every)))

    def test_examples(self):
        equal = (("a", "b", "c"), ((A, NOT_B), (NOT_A, B)))
        self.assertEqual(parities_of_bits(equal), (("a", "b", "c"), (mod(0, 2, a=1, b=1),)))
        single = (("a", "b", "c"), ((A,), (NOT_B,), (C,)))
        self.assertEqual(parities_of_bits(single), (("a", "b", "c"), (mod(1, 2, a=1), mod(0, 2, b=1), mod(1, 2, c=1))))
        # Three of the four values of a and b, so no parity tells anything about them.
        self.assertEqual(parities_of_bits((("a", "b"), ((A, B),))), (("a", "b"), ()))

    def test_edges(self):
        self.assertEqual(parities_of_bits(((), ())), ((), ()))
        self.assertEqual(parities_of_bits(((), ((),))), ((), (NO_PARITY,)))
        self.assertEqual(parities_of_bits((("a",), ((),))), (("a",), (NO_PARITY,)))
        self.assertEqual(parities_of_bits((("a", "b"), ())), (("a", "b"), ()))

    def test_there_and_back(self):
        for theory in PARITY_THEORIES:
            self.assertEqual(parities_of_bits(bits_of_parities(theory)), Wholes().normal(theory))


class QuickTest(unittest.TestCase):
    def timed(self, work, *arguments):
        start = perf_counter()
        work(*arguments)
        self.assertLess(perf_counter() - start, 2, work)

    def test_limits(self):
        maker = random.Random(38)
        names = tuple("abcde")
        for size in (1, 2, 3, 5):
            theory = (names, tuple(made_clause(maker, names, size) for _ in range(8)))
            self.timed(Rows().normal, rows_of_bits(theory))
            self.timed(Words().normal, words_of_bits(theory))
            self.timed(parities_of_bits, theory)
            for kind, crossed in ((Rows(), rows_of_bits(theory)), (Words(), words_of_bits(theory))):
                self.timed(solve, kind, crossed)
                start = perf_counter()
                shadow(kind, crossed, shown=("b", "d"))
                self.assertLess(perf_counter() - start, 2)

    def test_beyond_the_limits(self):
        maker = random.Random(39)
        names = tuple("abcdefghijk")
        theory = (names, tuple(made_clause(maker, names, 3) for _ in range(16)))
        self.timed(rows_of_bits, theory)
        self.timed(words_of_bits, theory)
        self.timed(parities_of_bits, theory)
        self.timed(parities_of_bits, (names, ()))
        odd = (names, (mod(1, 2, **{name: 1 for name in names}),))
        self.timed(bits_of_parities, odd)
        self.timed(parities_of_bits, bits_of_parities(odd))
        first = complete(Words(), words_of_bits((names, (made_clause(maker, names, 5),))), {"": 1})
        self.assertEqual(len(first), 12)


if __name__ == "__main__":
    unittest.main()
