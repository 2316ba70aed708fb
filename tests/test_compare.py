"""Points 12, 13, 16, 20, 22 to 24, 40 and 122 to 135: comparing parts, leaving out, and middles."""

import copy
import random
import unittest
from time import perf_counter

from shadowlinks.compare import (
    alike_families, compare, core, flattened, idle_names, least_surrounding, middle, middles, reasons, silent,
    surrounding, works_in,
)
from shadowlinks.errors import InvalidPart
from shadowlinks.links import Link, bundled, shadows, works
from shadowlinks.parts import Part
from shadowlinks.shadows import follows, implies, satisfies, shadow, solve
from shadowlinks.theories import join, restrict, widen
from tests.linkcases import (
    BITS, KINDS, LINES, ROWS, STEPS, WHOLES, WORDS, always, fixed, limit_links, made_constraint, made_links,
    made_part, part, same,
)
from tests.texts import check_tuples


def told(one):
    return one.word, one.name, one.shown, one.hidden, one.constraints


def shadow_of(kind, one):
    return shadow(kind, one.theory, shown=one.shown)


def some_parts(kind, seed, count):
    maker = random.Random(seed)
    return [made_part(maker, kind, "p") for _ in range(count)]


def some_pairs(kind, seed, count):
    """Pairs of parts that show the same names."""
    maker = random.Random(seed)
    found = []
    while len(found) < count:
        first, second = made_part(maker, kind, "p", "ab"), made_part(maker, kind, "q", "ab")
        if first.shown == second.shown:
            found.append((first, second))
            if maker.randrange(2):
                found.append((flattened(kind, first), first))
                fewer = first.with_constraints(first.constraints[1:])
                found.append((first, fewer))
                found.append((fewer, first))
    return found


class WorksInTest(unittest.TestCase):
    def test_ordinary(self):
        for kind in KINDS:
            one = part(kind, "p", "a", "h", *same(kind, "a", "h"), *fixed(kind, "h", 0))
            self.assertIs(works_in(kind, one, (("a",), fixed(kind, "a", 0))), True)
            self.assertIs(works_in(kind, one, (("a",), fixed(kind, "a", 1))), False)
            self.assertIs(works_in(kind, one, (("a", "b"), (*same(kind, "a", "b"), *fixed(kind, "b", 1)))), False)
            self.assertIs(works_in(kind, one, (("b",), fixed(kind, "b", 1))), True)
            self.assertIs(works_in(kind, one, ((), ())), True)
            self.assertIs(works_in(kind, one, ((), (kind.contradiction(),))), False)

    def test_hidden_names_are_names_of_the_surrounding(self):
        for kind in KINDS:
            one = part(kind, "p", "a", "h x.y", *same(kind, "a", "h"), *fixed(kind, "h", 0), *fixed(kind, "x.y", 0))
            other = (("a", "h", "x.y"), (*fixed(kind, "h", 1), *fixed(kind, "x.y", 1)))
            self.assertIs(works_in(kind, one, other), True)
            self.assertIs(works_in(kind, one, (other[0], (*other[1], *fixed(kind, "a", 1)))), False)

    def test_the_join_with_the_shadow(self):
        for kind in KINDS:
            for one, other in zip(some_parts(kind, 91, 20), some_parts(kind, 92, 20)):
                wanted = solve(kind, join([shadow_of(kind, one), other.theory])) is not None
                self.assertIs(works_in(kind, one, other.theory), wanted)


class CompareTest(unittest.TestCase):
    def test_ordinary(self):
        for kind in KINDS:
            zero = part(kind, "p", "a", "h", *same(kind, "a", "h"), *fixed(kind, "h", 0))
            also = part(kind, "q", "a", "", *fixed(kind, "a", 0))
            one = part(kind, "q", "a", "x", *fixed(kind, "a", 1), *fixed(kind, "x", 0))
            every = part(kind, "r", "a", "")
            none = part(kind, "s", "a", "h", kind.contradiction())
            self.assertEqual(compare(kind, zero, also), "alike")
            self.assertEqual(compare(kind, zero, every), "wider")
            self.assertEqual(compare(kind, every, zero), "narrower")
            self.assertEqual(compare(kind, zero, one), "apart")
            self.assertEqual(compare(kind, none, one), "wider")
            self.assertEqual(compare(kind, one, none), "narrower")
            self.assertEqual(compare(kind, none, none.called("t")), "alike")

    def test_parts_that_show_nothing(self):
        for kind in KINDS:
            good, bad = part(kind, "p", "", "h", *fixed(kind, "h", 0)), part(kind, "q", "", "", kind.contradiction())
            wanted = "narrower" if kind is WORDS else "alike"
            self.assertEqual(compare(kind, part(kind, "r", "", ""), good), wanted)
            self.assertEqual(compare(kind, good, bad), "narrower")
            self.assertEqual(compare(kind, bad, good), "wider")
            self.assertIsNone(surrounding(kind, bad, good))
            self.assertIs(works_in(kind, good, surrounding(kind, good, bad)), True)
            self.assertIs(works_in(kind, bad, surrounding(kind, good, bad)), False)

    def test_the_solutions_of_the_shadows(self):
        for kind in KINDS:
            found = set()
            for first, second in some_pairs(kind, 93, 70):
                one, other = shadow_of(kind, first), shadow_of(kind, second)
                wanted = {
                    (True, True): "alike", (True, False): "wider", (False, True): "narrower", (False, False): "apart",
                }[implies(kind, one, other), implies(kind, other, one)]
                self.assertEqual(compare(kind, first, second), wanted)
                self.assertEqual(wanted == "alike", one == other)
                found.add(wanted)
            self.assertEqual(len(found), 4, kind.WORD)

    def test_other_shown_names(self):
        first = part(BITS, "p", "b c e", "a", ())
        for shown, name in (("b c", "e"), ("b c d e", "d"), ("a b c e", "a"), ("", "b"), ("c d e", "b"), ("b c f", "e")):
            second = part(BITS, "q", shown, "x")
            for one, other in ((first, second), (second, first)):
                for work in (compare, surrounding, least_surrounding):
                    with self.assertRaises(InvalidPart) as caught:
                        work(BITS, one, other)
                    self.assertEqual(caught.exception.name, name)


class SurroundingTest(unittest.TestCase):
    def test_what_point_125_says(self):
        for kind in KINDS:
            for first, second in some_pairs(kind, 94, 30):
                kept = copy.deepcopy((told(first), told(second)))
                found = surrounding(kind, first, second)
                self.assertEqual((told(first), told(second)), kept)
                one = shadow_of(kind, first)
                for constraint in shadow_of(kind, second)[1]:
                    if not follows(kind, one, constraint):
                        values = kind.counterexample(one, constraint)
                        self.assertEqual(found, kind.pin(first.shown, values))
                        break
                else:
                    self.assertIsNone(found)
                self.assertIs(found is None, compare(kind, first, second) in ("alike", "wider"))
                if found is not None:
                    check_tuples(self, found)
                    self.assertIs(works_in(kind, first, found), True)
                    self.assertIs(works_in(kind, second, found), False)

    def test_example(self):
        first = part(BITS, "p", "a b", "", (("a", 1), ("b", 1)))
        second = part(BITS, "q", "a b", "", (("b", 1),))
        self.assertEqual(surrounding(BITS, first, second), (("a", "b"), ((("a", 1),), (("b", 0),))))
        self.assertEqual(least_surrounding(BITS, first, second), (("a", "b"), ((("b", 0),),)))
        self.assertIsNone(surrounding(BITS, second, first))
        self.assertIsNone(least_surrounding(BITS, second, first))


class LeastSurroundingTest(unittest.TestCase):
    def test_what_point_126_says(self):
        for kind in KINDS:
            for first, second in some_pairs(kind, 95, 30):
                start = surrounding(kind, first, second)
                found = least_surrounding(kind, first, second)
                if start is None:
                    self.assertIsNone(found)
                    continue
                left = list(start[1])
                for constraint in start[1]:
                    others = [other for other in left if other != constraint]
                    if not works_in(kind, second, (start[0], tuple(others))):
                        left = others
                self.assertEqual(found, (start[0], tuple(left)))
                check_tuples(self, found)
                self.assertIs(works_in(kind, first, found), True)
                self.assertIs(works_in(kind, second, found), False)
                for at in range(len(found[1])):
                    self.assertIs(works_in(kind, second, (found[0], found[1][:at] + found[1][at + 1:])), True)

    def test_a_part_that_never_works(self):
        for kind in KINDS:
            first, second = part(kind, "p", "a", ""), part(kind, "q", "a", "", kind.contradiction())
            self.assertEqual(least_surrounding(kind, first, second), (("a",), ()))

    def test_two_names(self):
        for kind in (BITS, STEPS, LINES, WHOLES):
            first = part(kind, "p", "a b", "", *fixed(kind, "a", 0), *fixed(kind, "b", 0))
            second = part(kind, "q", "a b", "h", *fixed(kind, "b", 1))
            names, constraints = least_surrounding(kind, first, second)
            self.assertEqual(names, ("a", "b"))
            self.assertEqual([name for one in constraints for name in kind.names_in(one)], ["b"])


class FlatTest(unittest.TestCase):
    def test_flat_parts(self):
        for kind in KINDS:
            for one in some_parts(kind, 96, 20):
                kept = copy.deepcopy(told(one))
                found = flattened(kind, one)
                self.assertEqual(told(found), (one.word, "p", one.shown, (), shadow_of(kind, one)[1]))
                self.assertEqual(compare(kind, one, found), "alike")
                self.assertEqual(told(flattened(kind, found)), told(found))
                self.assertEqual(told(one), kept)

    def test_no_link_can_tell_them_apart(self):
        for kind in KINDS:
            for link in made_links(kind, 97, 15):
                flat = Link(kind, [flattened(kind, one) for one in link])
                self.assertEqual(shadows(flat), shadows(link))
                self.assertIs(works(flat), works(link))


class FamiliesTest(unittest.TestCase):
    def test_families(self):
        for kind in KINDS:
            zero = part(kind, "p", "a", "h", *same(kind, "a", "h"), *fixed(kind, "h", 0))
            also = part(kind, "q", "a", "", *fixed(kind, "a", 0))
            one = part(kind, "p", "a", "", *fixed(kind, "a", 1))
            other = part(kind, "p", "b", "", *fixed(kind, "b", 0))
            found = alike_families(kind, [one, zero, other, also, one, zero])
            self.assertEqual(found, ((0, 4), (1, 3, 5), (2,)))
            self.assertEqual(alike_families(kind, (zero,)), ((0,),))
            self.assertEqual(alike_families(kind, []), ())

    def test_pairs(self):
        for kind in KINDS:
            parts = [one for pair in some_pairs(kind, 98, 10) for one in pair]
            found = alike_families(kind, parts)
            check_tuples(self, found)
            self.assertEqual(sorted(index for family in found for index in family), list(range(len(parts))))
            self.assertEqual(list(found), sorted(found))
            for family in found:
                self.assertEqual(list(family), sorted(family))
            for i, first in enumerate(parts):
                for j, second in enumerate(parts):
                    alike = first.shown == second.shown and compare(kind, first, second) == "alike"
                    self.assertIs(any(i in family and j in family for family in found), alike)


class IdleTest(unittest.TestCase):
    def test_ordinary(self):
        for kind in KINDS:
            one = part(kind, "p", "a b c", "h", *same(kind, "a", "h"), *fixed(kind, "h", 0))
            self.assertEqual(idle_names(kind, one), ("b", "c"))
            self.assertEqual(idle_names(kind, part(kind, "p", "a c", "", *same(kind, "a", "c"))), ())
            self.assertEqual(idle_names(kind, part(kind, "p", "c a", "h", *fixed(kind, "h", 1))), ("a", "c"))
            never = part(kind, "p", "c a", "h", *fixed(kind, "a", 0), kind.contradiction())
            self.assertEqual(idle_names(kind, never), ("a", "c"))
            self.assertEqual(idle_names(kind, part(kind, "p", "", "h")), ())

    def test_a_name_that_is_mentioned_only(self):
        one = part(BITS, "p", "a b", "", (("a", 1), ("b", 1)), (("a", 0), ("b", 1)))
        self.assertEqual(idle_names(BITS, one), ("a",))
        one = part(ROWS, "p", "a b", "", (("a", "b"), ((0, 1), (1, 1), (2, 1))))
        self.assertEqual(idle_names(ROWS, one), ("a",))
        one = part(WORDS, "p", "x", "", (("x",), ((1, 1), (0, 0)), (1, 0)))
        self.assertEqual(idle_names(WORDS, one), ("x",))

    def test_what_point_129_says(self):
        for kind in KINDS:
            for one in some_parts(kind, 99, 25):
                found = shadow_of(kind, one)
                wanted = []
                for name in one.shown:
                    # Another name in its place tells the same together with the rest exactly if it is idle.
                    twin = kind.rename(found, {name: "zz"})
                    if implies(kind, widen(found, "zz"), twin) and implies(kind, widen(twin, name), found):
                        wanted.append(name)
                self.assertEqual(idle_names(kind, one), tuple(wanted))


class SilentTest(unittest.TestCase):
    def test_two_that_cannot_be_dropped_together(self):
        for kind in KINDS:
            twice = part(kind, "p", "a", "h", *fixed(kind, "a", 0), *fixed(kind, "a", 0))
            count = len(fixed(kind, "a", 0))
            self.assertEqual(silent(kind, twice), tuple(range(2 * count)))
            self.assertEqual(core(kind, twice).constraints, fixed(kind, "a", 0))
            self.assertEqual(silent(kind, core(kind, twice)), ())

    def test_constraints_about_hidden_names(self):
        for kind in KINDS:
            # Without a value of h, the constraints tell nothing about a.
            one = part(kind, "p", "a", "h", *same(kind, "a", "h"))
            self.assertEqual(silent(kind, one), tuple(range(len(one))))
            self.assertEqual(core(kind, one).constraints, ())
            one = part(kind, "p", "a", "h k", *same(kind, "a", "h"), *fixed(kind, "h", 1), *same(kind, "h", "k"))
            first = len(one) - len(same(kind, "h", "k"))
            self.assertEqual(silent(kind, one)[-1], len(one) - 1)
            self.assertLessEqual(set(range(first, len(one))), set(silent(kind, one)))

    def test_never_works(self):
        for kind in KINDS:
            one = part(kind, "p", "a", "", kind.contradiction(), *fixed(kind, "a", 0), kind.contradiction())
            self.assertEqual(silent(kind, one), tuple(range(len(one))))
            self.assertEqual(core(kind, one).constraints, (kind.contradiction(),))
            self.assertEqual(silent(kind, part(kind, "p", "a", "")), ())

    def test_what_point_130_says(self):
        for kind in KINDS:
            for one in some_parts(kind, 100, 25):
                wanted = []
                for at in range(len(one)):
                    fewer = one.with_constraints(one.constraints[:at] + one.constraints[at + 1:])
                    if shadow_of(kind, fewer) == shadow_of(kind, one):
                        wanted.append(at)
                self.assertEqual(silent(kind, one), tuple(wanted))


class CoreTest(unittest.TestCase):
    def test_both_directions(self):
        for kind in KINDS:
            longer = always(kind)
            zero = fixed(kind, "a", 0)
            told_twice = (*zero, *([longer] if longer else []), *same(kind, "a", "b"), *fixed(kind, "b", 0))
            one = part(kind, "p", "a b", "", *told_twice)
            forward, backward = core(kind, one), core(kind, one, backwards=True)
            self.assertEqual((forward.shown, forward.name, forward.word), (("a", "b"), "p", kind.WORD))
            self.assertEqual(forward.constraints[-len(fixed(kind, "b", 0)):], fixed(kind, "b", 0))
            self.assertEqual(backward.constraints[:len(zero)], zero)
            self.assertNotEqual(forward.constraints, backward.constraints)
            self.assertEqual(core(kind, one, backwards=False).constraints, forward.constraints)

    def test_what_point_131_says(self):
        for kind in KINDS:
            for one in some_parts(kind, 101, 25):
                kept = copy.deepcopy(told(one))
                for backwards in (False, True):
                    left = list(range(len(one)))
                    for at in left[::-1] if backwards else list(left):
                        others = [other for other in left if other != at]
                        fewer = one.with_constraints([one.constraints[other] for other in others])
                        if shadow_of(kind, fewer) == shadow_of(kind, one):
                            left = others
                    found = core(kind, one, backwards=backwards)
                    self.assertEqual(told(found), (*told(one)[:4], tuple(one.constraints[at] for at in left)))
                    self.assertEqual(silent(kind, found), ())
                self.assertEqual(told(one), kept)


class ReasonsTest(unittest.TestCase):
    def test_both_directions(self):
        clauses = ((("a", 1),), (("a", 0), ("b", 1)), (("b", 1),), (("c", 1),))
        theory = ("a", "b", "c"), clauses
        self.assertEqual(reasons(BITS, theory, (("b", 1),)), (2,))
        self.assertEqual(reasons(BITS, theory, (("b", 1),), backwards=True), (0, 1))
        self.assertEqual(reasons(BITS, theory, (("b", 1), ("c", 1))), (3,))
        self.assertIsNone(reasons(BITS, theory, (("b", 0),)))
        self.assertIsNone(reasons(BITS, theory, (("b", 0),), backwards=True))

    def test_a_constraint_that_always_holds(self):
        for kind in KINDS:
            if always(kind) is not None:
                for theory in (((), ()), (("a",), ()), (("a",), fixed(kind, "a", 0))):
                    self.assertEqual(reasons(kind, theory, always(kind)), ())

    def test_what_point_132_says(self):
        for kind in KINDS:
            maker = random.Random(102)
            found = set()
            for one in some_parts(kind, 103, 40):
                names, constraints = one.theory
                asked = [kind.contradiction(), *[made_constraint(maker, kind, names) for _ in range(3) if names]]
                for constraint in [*asked, *constraints[:1]]:
                    for backwards in (False, True):
                        left = list(range(len(constraints)))
                        for at in left[::-1] if backwards else list(left):
                            others = [other for other in left if other != at]
                            if follows(kind, (names, tuple(constraints[own] for own in others)), constraint):
                                left = others
                        wanted = tuple(left) if follows(kind, one.theory, constraint) else None
                        self.assertEqual(reasons(kind, one.theory, constraint, backwards=backwards), wanted)
                        found.add(wanted if wanted is None else len(wanted))
            self.assertTrue({None, 1, 2} <= found)


class MiddleTest(unittest.TestCase):
    def test_ordinary(self):
        for kind in KINDS:
            first = ("a", "b"), (*same(kind, "a", "b"), *fixed(kind, "a", 0))
            second = ("b", "c"), fixed(kind, "b", 1)
            found = middle(kind, first, second)
            self.assertEqual(found, kind.normal((("b",), fixed(kind, "b", 0))))
            self.assertIsNone(middle(kind, first, (("b", "c"), fixed(kind, "b", 0))))
            self.assertIsNone(middle(kind, (("a",), ()), (("a",), ())))
            self.assertEqual(middle(kind, ((), (kind.contradiction(),)), first), kind.normal(((), (kind.contradiction(),))))
            self.assertEqual(middle(kind, (("z",), ()), (("a",), (kind.contradiction(),))), kind.normal(((), ())))

    def test_what_point_133_says(self):
        for kind in KINDS:
            count = 0
            for first, second in zip(some_parts(kind, 104, 60), some_parts(kind, 105, 60)):
                found = middle(kind, first.theory, second.theory)
                clash = solve(kind, join([first.theory, second.theory])) is None
                self.assertIs(found is not None, clash)
                if clash:
                    count += 1
                    both = tuple(name for name in first.theory[0] if name in second.theory[0])
                    self.assertEqual(found, shadow(kind, first.theory, shown=both))
                    self.assertIs(implies(kind, first.theory, found), True)
                    self.assertIsNone(solve(kind, join([found, second.theory])))
            self.assertGreater(count, 3)


class MiddlesTest(unittest.TestCase):
    def test_edges(self):
        for kind in KINDS:
            self.assertIsNone(middles(kind))
            self.assertIsNone(middles(kind, ((), ())))
            self.assertIsNone(middles(kind, (("a",), ()), (("a",), fixed(kind, "a", 0))))
            self.assertEqual(middles(kind, ((), (kind.contradiction(),))), ())
            self.assertEqual(middles(kind, (("a",), (*fixed(kind, "a", 0), *fixed(kind, "a", 1)))), ())

    def test_a_chain(self):
        for kind in KINDS:
            theories = [
                (("a", "b"), (*fixed(kind, "a", 0), *same(kind, "a", "b"))), (("b", "c"), same(kind, "b", "c")),
                (("c", "d"), same(kind, "c", "d")), (("b", "d"), fixed(kind, "d", 1)),
            ]
            found = middles(kind, *theories)
            self.assertEqual(len(found), 3)
            self.assertEqual([names for names, _ in found], [("b",), ("b", "c"), ("b", "d")])
            self.assertEqual(found[0], kind.normal((("b",), fixed(kind, "b", 0))))
            self.assertEqual(found[2], kind.normal((("b", "d"), (*fixed(kind, "b", 0), *fixed(kind, "d", 0)))))

    def test_what_point_134_says(self):
        for kind in KINDS:
            lengths = set()
            for link in made_links(kind, 106, 60):
                theories = [one.theory for one in link.parts]
                kept = copy.deepcopy(theories)
                found = middles(kind, *theories)
                self.assertEqual(theories, kept)
                if solve(kind, join(theories)) is not None:
                    self.assertIsNone(found)
                    continue
                check_tuples(self, found)
                lengths.add(len(found))
                self.assertEqual(len(found), len(theories) - 1)
                for at, own in enumerate(found):
                    before = join(theories[:at + 1])
                    later = join(theories[at + 1:])[0]
                    shown = [name for name in before[0] if name in later]
                    self.assertEqual(own, shadow(kind, before, shown=shown))
                    if at > 0:
                        both = join([found[at - 1], theories[at]])
                        self.assertEqual(own, shadow(kind, both, shown=own[0]))
                if len(theories) == 2:
                    self.assertEqual(found, (middle(kind, *theories),))
            self.assertGreater(len(lengths), 2)


class WordsOfPartsTest(unittest.TestCase):
    def test_words_are_not_checked(self):
        one, other = Part("none", "p", ["a"], [], [(("a", 1),)]), Part("rows", "q", ["a"], [], [])
        self.assertEqual(compare(BITS, one, other), "wider")
        self.assertIs(works_in(BITS, one, (("a",), ((("a", 0),),))), False)
        self.assertEqual(flattened(BITS, one).word, "none")
        self.assertEqual(core(BITS, one).word, "none")
        self.assertEqual(alike_families(BITS, [one, other]), ((0,), (1,)))


class QuickTest(unittest.TestCase):
    def test_limits(self):
        for kind in KINDS:
            for link in limit_links(kind, 107, 4):
                start = perf_counter()
                for one in link:
                    idle_names(kind, one)
                    silent(kind, one)
                    core(kind, one, backwards=True)
                    compare(kind, one, one.with_constraints(one.constraints[1:]))
                    least_surrounding(kind, one.with_constraints(one.constraints[1:]), one)
                    reasons(kind, one.theory, kind.contradiction())
                middles(kind, *[one.theory for one in link])
                self.assertLess(perf_counter() - start, 6, kind.WORD)

    def test_bundles(self):
        for kind in KINDS:
            for link in limit_links(kind, 108, 2):
                one = bundled(link, "all", shown=link.interface[:2])
                start = perf_counter()
                values = solve(kind, shadow_of(kind, one))
                if values is not None:
                    self.assertIs(satisfies(kind, shadow_of(kind, one), restrict(values, one.shown)), True)
                self.assertLess(perf_counter() - start, 5, kind.WORD)


if __name__ == "__main__":
    unittest.main()
