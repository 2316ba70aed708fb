"""Points 10, 17, 19 and 83 in the kind words: machines that share names, and the grounds that they allow."""

import random
import unittest
from time import perf_counter

from shadowlinks.elimination import without_names
from shadowlinks.linker import Linker
from shadowlinks.links import Link, shadows, small_theories, solution, whole, works
from shadowlinks.machines import connected_machines, least_ground, names_of
from shadowlinks.meetings import part_views
from shadowlinks.parts import Part
from shadowlinks.shadows import follows, satisfies, shadow, solve
from shadowlinks.theories import join, restrict
from shadowlinks.wordpaths import first_ground, length_machine, theory_about
from shadowlinks.words import Words
from tests.wordcases import (
    ANY, DIFFERENT, EVEN_GROUND, NONE, REPEATED, THEORIES, UNDER, does_hold, longest, made_machine, made_theories,
    solutions_of,
)

KIND = Words()
MORE = (*THEORIES, *made_theories(171, 40, 3))


def over(machine, *names):
    return names, *machine[1:]


def apart(seed, count):
    """Theories with machines that share no names, one that has none, and some that share one."""
    maker = random.Random(seed)
    for _ in range(count):
        machines = [made_machine(maker, names, 2) for names in ("a", "bc", "bc", "d", "")]
        maker.shuffle(machines)
        yield ("a", "b", "c", "d"), tuple(machines[:maker.randrange(1, 6)])


class GroupsTest(unittest.TestCase):
    def test_names(self):
        self.assertEqual(names_of([]), ())
        self.assertEqual(names_of([ANY]), ())
        self.assertEqual(names_of([REPEATED, DIFFERENT, ANY]), ("x", "y"))

    def test_connected(self):
        a, ab, b, bc, c, d = (over(REPEATED, *names) for names in ("a", "ab", "b", "bc", "c", "d"))
        self.assertEqual(connected_machines([]), [])
        self.assertEqual(connected_machines([a, b]), [[a], [b]])
        self.assertEqual(connected_machines([ANY, NONE]), [[ANY], [NONE]])
        for machines, wanted in (
            ([a, b, ab], [{"a", "b"}]), ([a, ab, c, bc], [{"a", "b", "c"}]), ([a, c, d, bc], [{"a"}, {"b", "c"}, {"d"}]),
            ([ab, d, c, bc, d], [{"a", "b", "c"}, {"d"}]),
        ):
            found = connected_machines(machines)
            self.assertEqual(sorted(map(set, map(names_of, found)), key=sorted), wanted)
            self.assertEqual(sorted(machine for group in found for machine in group), sorted(machines))


class GroundTest(unittest.TestCase):
    def test_least_ground(self):
        threes = ((), ((1,), (2,), (0,)), (0, 0, 1))
        self.assertEqual(least_ground([]), 0)
        self.assertEqual(least_ground([EVEN_GROUND, threes]), 2)
        self.assertEqual(least_ground([threes]), 2)
        self.assertEqual(least_ground([threes, ((), ((1,), (0,)), (0, 1))]), 5)
        self.assertIsNone(least_ground([NONE, ANY]))
        # Behind -1, nothing is read, though the last state is an end.
        self.assertIsNone(least_ground([((), ((-1,), (0,)), (0, 1))]))
        self.assertIsNone(least_ground([ANY, ((), ((1,), (-1,), (1,)), (0, 0, 1))]))
        self.assertIsNone(KIND.ground(((), (((), ((-1,), (0,)), (0, 1)),))))
        self.assertIsNone(least_ground([((), ((1,), (0,)), (0, 1)), EVEN_GROUND]))

    def test_lengths(self):
        for theory in MORE:
            if theory[1]:
                found = length_machine(theory[1])
                self.assertIs(KIND.is_valid((), found), True)
                for length in range(longest(theory) + 1):
                    self.assertIs(does_hold(found, {"": length}), solutions_of(theory, length) != [])

    def test_first_ground(self):
        for theory in (*MORE, *apart(172, 60)):
            found = first_ground(theory)
            start = KIND.ground(shadow(KIND, theory, shown=()))
            self.assertEqual(found, None if start is None else start[""])
            self.assertEqual(solve(KIND, theory) is None, found is None)


class AboutTest(unittest.TestCase):
    def test_the_same_about_the_names(self):
        for theory in (*MORE, *apart(173, 40)):
            for names in (theory[0][:1], theory[0][1:2], ()):
                about = theory_about(theory, names)
                self.assertLessEqual(set(names), set(about[0]))
                self.assertEqual(shadow(KIND, about, shown=names), shadow(KIND, theory, shown=names))

    def test_counterexamples_have_all_names_and_the_least_ground(self):
        maker = random.Random(174)
        for theory in apart(175, 40):
            for constraint in [NONE, EVEN_GROUND, *[made_machine(maker, "abd", 2) for _ in range(3)]]:
                found = KIND.counterexample(theory, constraint)
                self.assertIs(follows(KIND, theory, constraint), found is None)
                self.assertEqual(KIND.certificate(theory, constraint) is None, found is not None)
                if found is not None:
                    self.assertEqual(set(found), {"", *theory[0]})
                    self.assertIs(satisfies(KIND, theory, found), True)
                    self.assertIs(KIND.holds(constraint, found), False)
                    for length in range(min(found[""], 2)):
                        self.assertTrue(all(does_hold(constraint, one) for one in solutions_of(theory, length)))


class QuickTest(unittest.TestCase):
    def test_many_machines_apart(self):
        # Side by side, they have a million states.
        names = tuple("abcdefgh")
        counts = (5, 7, 9, 11, 13, 4, 3, 2)
        machines = [
            ((name,), tuple(((at + 1) % count,) * 2 for at in range(count)), (*[0] * (count - 1), 1))
            for name, count in zip(names, counts)
        ]
        start = perf_counter()
        found = solve(KIND, (names[:4], tuple(machines[:4])))
        self.assertEqual(found[""], 5 * 7 * 9 * 11 - 1)
        never = (("c",), ((0, 0),), (0,))
        self.assertIsNone(solve(KIND, (names, (*machines[3:6], machines[7], over(UNDER, "a", "b"), never))))
        self.assertIsNone(KIND.counterexample((names, (*machines[:3], EVEN_GROUND, NONE)), machines[4]))
        self.assertLess(perf_counter() - start, 5)

    def test_unsatisfiable_machines_that_are_large_together(self):
        maker = random.Random(176)
        moves = [tuple(tuple(maker.randrange(40) for _ in range(4)) for _ in range(40)) for _ in range(3)]
        ends = tuple(at % 2 for at in range(40))
        machines = [(names, own, ends) for names, own in zip((("a", "b"), ("b", "c"), ("a", "c")), moves)]
        start = perf_counter()
        theory = ("a", "b", "c"), (*machines, NONE)
        self.assertEqual(without_names(KIND, theory, ["b"]), (("a", "c"), (NONE,)))
        self.assertLess(perf_counter() - start, 5)


class HardLinksTest(unittest.TestCase):
    """Links whose shadows take very many states if names are eliminated in an order that does not suit them."""

    def machine(self, maker, names, holes):
        moves = tuple(
            tuple(-1 if maker.random() < holes else maker.randrange(3) for _ in range(2 ** len(names))) for _ in range(3)
        )
        return names, moves, tuple(maker.randrange(2) for _ in range(3))

    def link(self, seed):
        maker, parts, left = random.Random(seed), [], 6
        for at in range(4):
            many = min(left, maker.choice([1, 2, 2]))
            left -= many
            shown = tuple(sorted(maker.sample("abcde", maker.randrange(1, 4 - many) if many < 2 else 1)))
            names = tuple(sorted((*shown, *"hk"[:many])))
            holes = maker.choice([0, 0.2, 0.3, 0.4, 0.5])
            owns = [
                names if maker.random() < 0.8 else tuple(sorted(maker.sample(names, min(2, len(names))))) for _ in range(2)
            ]
            machines = [self.machine(maker, own, holes) for own in owns]
            parts.append(Part("words", f"p{at}", shown, "hk"[:many], machines))
        return Link(KIND, parts)

    def test_solutions_by_the_machines_of_the_parts(self):
        count = 0
        for seed in range(200, 600):
            link = self.link(seed)
            found = shadows(link)
            small = small_theories(KIND, link.parts, found)
            if sum(one != other for one, other in zip(small, found)) > 1:
                first = solve(KIND, join(found))
                values = solution(link)
                self.assertIs(works(link), first is not None)
                self.assertEqual(values is None, first is None)
                linker = Linker.of(KIND, link.parts)
                for one in link:
                    self.assertIs(linker.fits(one), works(link))
                for constraint in found[0][1]:
                    self.assertIsNotNone(linker.why(constraint))
                if first is not None:
                    count += 1
                    self.assertEqual(restrict(values, link.interface), first)
                    self.assertIs(satisfies(KIND, whole(link), values), True)
        self.assertGreater(count, 5)

    def test_views_and_surroundings(self):
        for seed in (101832, 101937, 204716, 207614, 406939, 603091, 1301924):
            link = self.link(seed)
            start = perf_counter()
            found = part_views(link)
            linker = Linker.of(KIND, link.parts)
            for one, view in zip(link, found):
                both = join([linker.surrounding_of(one.name), linker.shadow_of(one.name)])
                self.assertEqual(KIND.normal(both), view)
            self.assertLess(perf_counter() - start, 8, seed)


if __name__ == "__main__":
    unittest.main()
