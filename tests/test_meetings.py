"""Points 17, 23, 24, 106, 108, 110 to 114, 118 and 154 to 158: where the parts of a link meet."""

import random
import unittest
from itertools import permutations, product
from time import perf_counter

from shadowlinks.errors import InvalidLink, InvalidName, NoSolution
from shadowlinks.links import Link, bundled, shadows, solution, whole, works
from shadowlinks.meetings import cheapest_shadow, decide, fill_in, link_tree, nested, part_views
from shadowlinks.orders import groups_of, price
from shadowlinks.shadows import complete, follows, satisfies, shadow, solve
from shadowlinks.theories import join, restrict
from shadowlinks.trees import check_tree
from tests.linkcases import (
    BITS, KINDS, WORDS, assigned, chain, fixed, limit_links, made_constraint, made_links, part, same,
)
from tests.texts import check_tuples


def told(one):
    return one.word, one.name, one.shown, one.hidden, one.constraints


class CheapestShadowTest(unittest.TestCase):
    def test_a_path(self):
        for kind in KINDS:
            constraints = (*same(kind, "a", "b"), *same(kind, "b", "c"), *same(kind, "c", "d"), *fixed(kind, "d", 1))
            theory = ("a", "b", "c", "d"), constraints
            self.assertEqual(cheapest_shadow(kind, theory, shown=["a"])[:2], (2, ("d", "c", "b")))
            self.assertEqual(cheapest_shadow(kind, theory, shown=("d", "a"))[:2], (3, ("b", "c")))
            self.assertEqual(cheapest_shadow(kind, theory, shown=())[1], ("a", "b", "c", "d"))
            found = cheapest_shadow(kind, theory, shown=theory[0])
            self.assertEqual(found, (0, (), kind.normal(theory)))
            self.assertEqual(cheapest_shadow(kind, ((), ()), shown=[]), (0, (), kind.normal(((), ()))))

    def test_the_first_cheapest_order(self):
        for kind in KINDS:
            for link in made_links(kind, 141, 15, 3):
                theory = whole(link)
                shown = [name for name in theory[0] if "." not in name][::-1]
                hidden = [name for name in theory[0] if name not in shown]
                groups = groups_of(kind, theory)
                if len(hidden) <= 6:
                    wanted = min((price(groups, order), order) for order in permutations(hidden))
                    found = cheapest_shadow(kind, theory, shown=shown)
                    check_tuples(self, found)
                    self.assertEqual(found, (*wanted, shadow(kind, theory, shown=shown)))
                    left = theory
                    for name in found[1]:
                        left = kind.eliminate(left, name)
                    self.assertEqual(kind.normal(left), found[2])


class TreeTest(unittest.TestCase):
    def test_trees(self):
        for kind in KINDS:
            self.assertEqual(link_tree(Link(kind, [])), ())
            self.assertEqual(link_tree(chain(kind)), (-1, 0, 1))
            three = [part(kind, name, shown, "a.b") for name, shown in (("p", "a b"), ("q", "b c"), ("r", "a c"))]
            self.assertIsNone(link_tree(Link(kind, three)))

    def test_places_are_connected(self):
        for kind in KINDS:
            for link in made_links(kind, 142, 20):
                tree = link_tree(link)
                if tree is not None:
                    self.assertIsNone(check_tree([one.shown for one in link], tree))


class ViewsTest(unittest.TestCase):
    def test_chains(self):
        for kind in KINDS:
            a, c = (kind.normal(((name,), fixed(kind, name, 0))) for name in ("a", "c"))
            both = kind.normal((("a", "c"), (*fixed(kind, "a", 0), *fixed(kind, "c", 0))))
            self.assertEqual(part_views(chain(kind, (0, 0))), (a, both, c))
            for view in part_views(chain(kind, (0, 1))):
                self.assertEqual(view, kind.normal((view[0], (kind.contradiction(),))))
            self.assertEqual(part_views(Link(kind, [])), ())

    def test_without_a_tree(self):
        for kind in KINDS:
            three = [part(kind, name, f"{x} {y}", "", *same(kind, x, y)) for name, x, y in (
                ("p", "a", "b"), ("q", "b", "c"), ("r", "a", "c"),
            )]
            link = Link(kind, [*three, part(kind, "s", "b", "", *fixed(kind, "b", 1))])
            self.assertIsNone(link_tree(link))
            for one, view in zip(link, part_views(link)):
                told_of = [constraint for name in one.shown for constraint in fixed(kind, name, 1)]
                self.assertEqual(view, kind.normal((one.shown, tuple(told_of))))

    def test_the_shadow_of_the_whole(self):
        for kind in KINDS:
            for link in made_links(kind, 143, 30):
                found = part_views(link)
                check_tuples(self, found)
                self.assertEqual(found, tuple(shadow(kind, whole(link), shown=one.shown) for one in link))


class FillInTest(unittest.TestCase):
    def test_chains(self):
        for kind in KINDS:
            given = assigned(kind, a=1, c=1)
            kept = dict(given)
            found = fill_in(chain(kind, (1, 1)), given)
            self.assertEqual(found, assigned(kind, a=1, c=1, left_h=1, wire_h=1))
            self.assertEqual(given, kept)
            for wrong in (assigned(kind, a=0, c=0), assigned(kind, a=0, c=1), assigned(kind, a=1, c=0)):
                with self.assertRaises(NoSolution):
                    fill_in(chain(kind, (1, 1)), wrong)
            with self.assertRaises(NoSolution):
                fill_in(chain(kind, (1, 0)), given)

    def test_without_parts_and_without_hidden_names(self):
        for kind in KINDS:
            given = {"": 4} if kind is WORDS else {}
            found = fill_in(Link(kind, []), given)
            self.assertEqual(found, given)
            self.assertIsNot(found, given)
            with self.assertRaises(NoSolution):
                fill_in(Link(kind, [part(kind, "p", "", "", kind.contradiction())]), given)
            link = Link(kind, [part(kind, "p", "a", "", *fixed(kind, "a", 0))])
            self.assertEqual(fill_in(link, assigned(kind, a=0)), assigned(kind, a=0))
            with self.assertRaises(NoSolution):
                fill_in(link, assigned(kind, a=1))

    def test_what_point_156_says(self):
        for kind in KINDS:
            for link in made_links(kind, 144, 30):
                joined = join(shadows(link))
                first = solve(kind, joined)
                if first is not None:
                    self.assertEqual(fill_in(link, first), solution(link))
                for constraint in joined[1][:3]:
                    wrong = kind.counterexample((joined[0], ()), constraint)
                    if wrong is not None:
                        with self.assertRaises(NoSolution):
                            fill_in(link, wrong)
                values = kind.counterexample(joined, kind.contradiction())
                if values is not None:
                    found = fill_in(link, values)
                    self.assertIs(satisfies(kind, whole(link), found), True)
                    self.assertEqual(restrict(found, link.interface), values)
                    for one in link:
                        own = complete(kind, one.theory, restrict(values, one.shown))
                        for name in one.hidden:
                            self.assertEqual(found[f"{one.name}.{name}"], own[name])


class DecideTest(unittest.TestCase):
    def test_chains(self):
        for kind in KINDS:
            link = chain(kind, (1, 1))
            theory = whole(link)
            for constraint in fixed(kind, "a", 1):
                found = decide(link, constraint)
                self.assertIs(found[0], True)
                self.assertIs(kind.accepts(theory, constraint, found[1]), True)
            wrong = fixed(kind, "a", 0)
            found = [decide(link, constraint) for constraint in wrong]
            self.assertIn(False, [answer for answer, _ in found])
            for constraint, (answer, values) in zip(wrong, found):
                if not answer:
                    self.assertEqual(values, solution(link))
                    self.assertIs(kind.holds(constraint, values), False)
            answer, certificate = decide(chain(kind, (0, 1)), kind.contradiction())
            self.assertIs(answer, True)
            self.assertIs(kind.accepts(whole(chain(kind, (0, 1))), kind.contradiction(), certificate), True)

    def test_without_parts(self):
        for kind in KINDS:
            found = decide(Link(kind, []), kind.contradiction())
            self.assertEqual(found, (False, {"": 0} if kind is WORDS else {}))

    def test_what_point_157_says(self):
        for kind in KINDS:
            maker = random.Random(145)
            answers = set()
            for link in made_links(kind, 146, 30, 3):
                names, theory = link.interface, whole(link)
                asked = [made_constraint(maker, kind, names) for _ in range(3) if names]
                for constraint in [kind.contradiction(), *asked]:
                    found = decide(link, constraint)
                    self.assertIs(found.__class__, tuple)
                    answer, shown = found
                    self.assertIs(answer, follows(kind, (names, join(shadows(link))[1]), constraint))
                    answers.add(answer)
                    if answer:
                        self.assertIs(kind.accepts(theory, constraint, shown), True)
                        check_tuples(self, shown)
                    else:
                        self.assertEqual(set(shown) - {""}, set(theory[0]))
                        self.assertIs(satisfies(kind, theory, shown), True)
                        self.assertIs(kind.holds(constraint, shown), False)
            self.assertEqual(answers, {True, False})


class NestedTest(unittest.TestCase):
    def test_chains(self):
        for kind in KINDS:
            for ends in ((0, 0), (0, 1)):
                link = chain(kind, ends)
                found = nested(link, ("ends", ["right", "left"]), ("mid", ("wire",)))
                self.assertIsInstance(found, Link)
                self.assertEqual([one.name for one in found], ["ends", "mid"])
                inner = Link(kind, [link["left"], link["right"]])
                self.assertEqual(told(found["ends"]), told(bundled(inner, "ends", shown=["a", "c"])))
                self.assertEqual(found["ends"].hidden, ("left.h",))
                self.assertEqual(found["mid"].hidden, ("wire.h",))
                self.assertEqual(whole(found)[0], ("a", "c", "ends.left.h", "mid.wire.h"))
                self.assertIs(works(found), works(link))
                found = nested(link, ("one", ["left", "wire"]), ("two", ["right"]))
                self.assertEqual((found["one"].shown, found["one"].hidden), (("c",), ("a", "left.h", "wire.h")))
                self.assertIs(works(found), works(link))

    def test_one_team_and_no_team(self):
        for kind in KINDS:
            link = chain(kind)
            found = nested(link, ("all", [one.name for one in link][::-1]))
            self.assertEqual(told(found["all"]), told(bundled(link, "all", shown=())))
            self.assertEqual(nested(Link(kind, [])).parts, ())

    def test_a_team_without_parts(self):
        for kind in KINDS:
            found = nested(chain(kind), ("none", []), ("all", ("left", "right", "wire")))
            self.assertEqual(told(found["none"]), (kind.WORD, "none", (), (), ()))
            self.assertEqual(nested(Link(kind, []), ("x", ()))["x"].theory, ((), ()))

    def test_names_of_teams(self):
        link = chain(BITS)
        all_parts = ["left", "wire", "right"]
        for names, error, name in (
            (("A", "b"), InvalidName, "A"), (("b", "a.b"), InvalidName, "a.b"), (("b", "b", ""), InvalidName, ""),
            (("b", "b", "ninechars", "1"), InvalidName, "ninechars"), (("b", "b"), InvalidLink, "b"),
            (("b", "c", "c", "b"), InvalidLink, "c"), (("b", "c", "b", "c"), InvalidLink, "b"),
        ):
            teams = [(own, all_parts if at == 0 else []) for at, own in enumerate(names)]
            with self.assertRaises(error) as caught:
                nested(link, *teams)
            self.assertEqual(caught.exception.name, name)

    def test_what_point_158_says(self):
        for kind in KINDS:
            for link in made_links(kind, 147, 25):
                names = [one.name for one in link]
                for marks in list(product((0, 1), repeat=len(names)))[::3]:
                    teams = [("x", [name for name, mark in zip(names, marks) if mark == 0][::-1]), ("y", ())]
                    teams[1] = ("y", tuple(name for name, mark in zip(names, marks) if mark == 1))
                    found = nested(link, *teams)
                    self.assertEqual([one.name for one in found], ["x", "y"])
                    self.assertIs(works(found), works(link))
                    inside = [{own for one in link if one.name in members for own in one.shown} for _, members in teams]
                    for one, (name, members) in zip(found, teams):
                        inner = Link(kind, [own for own in link if own.name in members])
                        wanted = bundled(inner, name, shown=sorted(inside[0] & inside[1]))
                        self.assertEqual(told(one), told(wanted))


class UnchangedTest(unittest.TestCase):
    def test_links_stay(self):
        for kind in KINDS:
            link = chain(kind)
            kept = [told(one) for one in link]
            teams = ("x", ["left"]), ("y", ["wire", "right"])
            link_tree(link), part_views(link), decide(link, kind.contradiction()), nested(link, *teams)
            cheapest_shadow(kind, whole(link), shown=["a"])
            self.assertEqual([told(one) for one in link], kept)
            self.assertEqual(teams, (("x", ["left"]), ("y", ["wire", "right"])))


class QuickTest(unittest.TestCase):
    def test_limits(self):
        for kind in KINDS:
            for link in limit_links(kind, 148, 4):
                for work in (
                    part_views, link_tree, lambda own: cheapest_shadow(kind, whole(own), shown=own.interface),
                    lambda own: works(nested(own, ("x", ["p0", "p3"]), ("y", ["p1", "p2"]))),
                ):
                    start = perf_counter()
                    work(link)
                    self.assertLess(perf_counter() - start, 4, kind.WORD)

    def test_deciding(self):
        for kind in KINDS:
            maker = random.Random(149)
            for link in limit_links(kind, 150, 4, (1, 1, 0, 0)):
                for _ in range(3):
                    constraint = made_constraint(maker, kind, link.interface)
                    start = perf_counter()
                    decide(link, constraint)
                    self.assertLess(perf_counter() - start, 4, kind.WORD)


if __name__ == "__main__":
    unittest.main()
