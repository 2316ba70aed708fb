"""Points 16, 19, 21 to 25 and 104 to 110: links, their wholes, solutions, culprits and bundles."""

import copy
import unittest
from itertools import combinations
from time import perf_counter

from shadowlinks.errors import InvalidLink, InvalidName, InvalidPart, UnknownPart
from shadowlinks.links import Link, bundled, culprits, shadows, solution, whole, works
from shadowlinks.parts import Part
from shadowlinks.shadows import check_theory, complete, satisfies, shadow, solve
from shadowlinks.theories import join, restrict
from tests.linkcases import (
    BITS, KINDS, LINES, STEPS, VALUES, WORDS, assigned, chain, fixed, limit_links, made_links, part, same,
)
from tests.texts import check_tuples


def told(link):
    """Everything that a link and its parts show."""
    parts = [(one.word, one.name, one.shown, one.hidden, one.constraints) for one in link.parts]
    return link.kind, parts


class LinkTest(unittest.TestCase):
    def test_attributes(self):
        for kind in KINDS:
            parts = [Part.bare(kind.WORD, "b"), Part.bare(kind.WORD, "a")]
            link = Link(kind, parts)
            self.assertIs(link.kind, kind)
            self.assertEqual(link.parts, tuple(parts))
            self.assertIs(link.parts.__class__, tuple)
            parts.append(Part.bare(kind.WORD, "c"))
            self.assertEqual(len(link), 2)
            self.assertEqual(Link(kind, ()).parts, ())

    def test_a_part_that_does_not_fit(self):
        good, twin, wrong = Part.bare("bits", "a"), Part.bare("bits", "a"), Part.bare("rows", "b")
        for parts, name in (
            ([good, twin], "a"), ([wrong], "b"), ([good, wrong], "b"), ([good, wrong, twin], "b"),
            ([good, twin, wrong], "a"), ([Part.bare("rows", "c"), good, good], "c"),
            ([Part.bare("bits", "x"), good, twin, Part.bare("bits", "x")], "a"), ([wrong, wrong], "b"),
        ):
            for some in (parts, tuple(parts)):
                with self.assertRaises(InvalidLink) as caught:
                    Link(BITS, some)
                self.assertEqual(caught.exception.name, name)

    def test_interface(self):
        self.assertEqual(Link(BITS, ()).interface, ())
        link = Link(BITS, [part(BITS, "p", "c a", "b"), part(BITS, "q", "", "a"), part(BITS, "r", "d c", "")])
        self.assertEqual(link.interface, ("a", "c", "d"))

    def test_loop_length_and_membership(self):
        link = chain(BITS)
        self.assertEqual(len(link), 3)
        self.assertEqual([one.name for one in link], ["left", "wire", "right"])
        self.assertEqual(len(Link(BITS, [])), 0)
        self.assertIs("wire" in link, True)
        self.assertIs("a" in link, False)
        self.assertIs("wire" in Link(BITS, []), False)

    def test_reading(self):
        link = chain(BITS)
        self.assertIs(link["wire"], link.parts[1])
        for name in ("a", "", "wir"):
            with self.assertRaises(UnknownPart) as caught:
                link[name]
            self.assertEqual(caught.exception.name, name)

    def test_adding(self):
        link = chain(BITS)
        kept = told(link)
        more = link + Part.bare("bits", "abc")
        self.assertEqual([one.name for one in more], ["left", "wire", "right", "abc"])
        for wrong in (Part.bare("bits", "wire"), Part.bare("rows", "new"), Part.bare("rows", "left")):
            with self.assertRaises(InvalidLink) as caught:
                link + wrong
            self.assertEqual(caught.exception.name, wrong.name)
        self.assertEqual(told(link), kept)

    def test_removing(self):
        link = chain(BITS)
        kept = told(link)
        self.assertEqual([one.name for one in link - "wire"], ["left", "right"])
        self.assertEqual([one.name for one in link - "left" - "right" - "wire"], [])
        with self.assertRaises(UnknownPart) as caught:
            link - "a"
        self.assertEqual(caught.exception.name, "a")
        self.assertEqual(told(link), kept)

    def test_replacing(self):
        link = chain(BITS)
        kept = told(link)
        new = Part.bare("bits", "wire")
        found = link.replaced(new)
        self.assertEqual([one.name for one in found], ["left", "wire", "right"])
        self.assertIs(found["wire"], new)
        self.assertIs(found["left"], link["left"])
        for wrong, error in (
            (Part.bare("bits", "x"), UnknownPart), (Part.bare("rows", "x"), UnknownPart),
            (Part.bare("rows", "wire"), InvalidLink),
        ):
            with self.assertRaises(error) as caught:
                link.replaced(wrong)
            self.assertEqual(caught.exception.name, wrong.name)
        self.assertEqual(told(link), kept)


class WholeTest(unittest.TestCase):
    def test_names(self):
        link = Link(BITS, [part(BITS, "p", "x", "y q.x"), part(BITS, "q", "y", "x p.x"), part(BITS, "a", "", "b")])
        self.assertEqual(whole(link)[0], ("a.b", "p.q.x", "p.y", "q.p.x", "q.x", "x", "y"))
        self.assertEqual(whole(Link(BITS, [])), ((), ()))

    def test_a_hidden_name_that_looks_renamed(self):
        own = part(BITS, "p", "x", "y p.y", (("p.y", 1), ("x", 0)), (("y", 1),))
        wanted = (("p.p.y", "p.y", "x"), ((("p.p.y", 1), ("x", 0)), (("p.y", 1),)))
        self.assertEqual(whole(Link(BITS, [own])), wanted)

    def test_constraints_are_renamed_and_brought_into_form(self):
        # The hidden name z becomes p.z, which stands before x.
        link = Link(LINES, [
            part(LINES, "p", "x", "z", ((("x", 2), ("z", 3)), "<=", 1)), part(LINES, "q", "x", "", ((("x", 1),), "=", 0)),
        ])
        wanted = (((("p.z", 3), ("x", 2)), "<=", 1), ((("x", 1),), "=", 0))
        self.assertEqual(whole(link), (("p.z", "x"), wanted))
        link = Link(WORDS, [part(WORDS, "p", "x", "z", (("x", "z"), ((0, 1, 0, 0), (-1, -1, 1, 1)), (1, 0)))])
        self.assertEqual(whole(link), (("p.z", "x"), ((("p.z", "x"), ((0, 0, 1, 0), (-1, 1, -1, 1)), (1, 0)),)))

    def test_all_kinds(self):
        for kind in KINDS:
            for link in made_links(kind, 61, 20):
                kept = told(link)
                found = whole(link)
                check_tuples(self, found)
                self.assertIsNone(check_theory(kind, found))
                parts = []
                for one in link.parts:
                    parts.append(kind.rename(one.theory, {name: f"{one.name}.{name}" for name in one.hidden}))
                self.assertEqual(found, join(parts))
                self.assertEqual(told(link), kept)


class ShadowsTest(unittest.TestCase):
    def test_all_kinds(self):
        for kind in KINDS:
            for link in made_links(kind, 62, 15):
                wanted = tuple(shadow(kind, one.theory, shown=one.shown) for one in link.parts)
                self.assertEqual(shadows(link), wanted)
        self.assertEqual(shadows(Link(BITS, [])), ())


class WorksTest(unittest.TestCase):
    def test_chains(self):
        for kind in KINDS:
            self.assertIs(works(chain(kind, (0, 0))), True)
            self.assertIs(works(chain(kind, (1, 1))), True)
            self.assertIs(works(chain(kind, (0, 1))), False)
            for name in ("left", "wire", "right"):
                self.assertIs(works(chain(kind, (0, 1)) - name), True)

    def test_hidden_names_belong_to_their_parts(self):
        for kind in KINDS:
            both = [part(kind, "p", "", "a", *fixed(kind, "a", 0)), part(kind, "q", "", "a", *fixed(kind, "a", 1))]
            self.assertIs(works(Link(kind, both)), True)
            shown = [part(kind, "p", "a", "", *fixed(kind, "a", 0)), both[1]]
            self.assertIs(works(Link(kind, shown)), True)
            shown = [shown[0], part(kind, "q", "a", "", *fixed(kind, "a", 1))]
            self.assertIs(works(Link(kind, shown)), False)

    def test_without_parts(self):
        for kind in KINDS:
            self.assertIs(works(Link(kind, [])), True)
            self.assertEqual(solution(Link(kind, [])), {"": 0} if kind is WORDS else {})
            self.assertEqual(culprits(Link(kind, [])), ())

    def test_the_whole_and_the_shadows(self):
        for kind in KINDS:
            found = set()
            for link in made_links(kind, 63, 40):
                wanted = solve(kind, whole(link)) is not None
                self.assertIs(works(link), wanted)
                self.assertIs(solve(kind, join(shadows(link))) is not None, wanted)
                found.add(wanted)
            self.assertEqual(found, {True, False})

    def test_a_part_that_never_works(self):
        for kind in KINDS:
            link = Link(kind, [part(kind, "p", "a", ""), part(kind, "q", "", "x", kind.contradiction())])
            self.assertIs(works(link), False)
            self.assertIsNone(solution(link))
            self.assertEqual(culprits(link), ("q",))

    def test_the_ground_is_common(self):
        one, two = (((1,), (-1,)), (0, 1)), (((1,), (2,), (-1,)), (0, 0, 1))
        link = Link(WORDS, [part(WORDS, "p", "", "", ((), *one)), part(WORDS, "q", "", "x", ((), *two))])
        self.assertIs(works(link), False)
        self.assertEqual(culprits(link), ("p", "q"))
        self.assertEqual(solution(link - "p"), {"": 2, "q.x": "aa"})


class SolutionTest(unittest.TestCase):
    def test_chains(self):
        for kind in KINDS:
            value = VALUES[kind.WORD][1]
            found = solution(chain(kind, (1, 1)))
            self.assertEqual(found, assigned(kind, a=1, c=1, left_h=1, wire_h=1))
            self.assertEqual(found["a"], value)
            self.assertIsNone(solution(chain(kind, (1, 0))))

    def test_what_point_108_says(self):
        for kind in KINDS:
            for link in made_links(kind, 64, 40):
                kept = told(link)
                found = solution(link)
                first = solve(kind, join(shadows(link)))
                self.assertEqual(found is None, first is None)
                self.assertEqual(told(link), kept)
                if found is not None:
                    wanted = dict(first)
                    for one in link.parts:
                        own = complete(kind, one.theory, restrict(first, one.shown))
                        wanted.update({f"{one.name}.{name}": own[name] for name in one.hidden})
                    self.assertEqual(found, wanted)
                    self.assertEqual(set(found) - {""}, set(whole(link)[0]))
                    self.assertIs(satisfies(kind, whole(link), found), True)

    def test_the_interface_decides_first(self):
        # The first solution of the whole would give p.h, which comes before x, the value 0.
        link = Link(BITS, [part(BITS, "p", "x", "h", (("h", 1), ("x", 1)))])
        self.assertEqual(solution(link), {"x": 0, "p.h": 1})
        self.assertEqual(solve(BITS, whole(link)), {"x": 1, "p.h": 0})

    def test_a_new_dict(self):
        link = chain(STEPS, (1, 1))
        solution(link)["a"] = 99
        self.assertEqual(solution(link)["a"], 5)


class CulpritsTest(unittest.TestCase):
    def test_chains(self):
        for kind in KINDS:
            self.assertEqual(culprits(chain(kind, (1, 1))), ())
            self.assertEqual(culprits(chain(kind, (0, 1))), ("left", "wire", "right"))
            more = Link(kind, [part(kind, "odd", "b", ""), *chain(kind), part(kind, "even", "a", "")])
            self.assertEqual(culprits(more), ("left", "wire", "right"))

    def test_the_order_decides(self):
        for kind in KINDS:
            zero, one = (part(kind, "p", "a", "", *fixed(kind, "a", at)) for at in (0, 1))
            link = Link(kind, [zero, one.called("q"), zero.called("r"), one.called("s")])
            self.assertEqual(culprits(link), ("r", "s"))
            self.assertEqual(culprits(Link(kind, link.parts[:3])), ("q", "r"))

    def test_what_point_109_says(self):
        for kind in KINDS:
            most = 0
            for link in made_links(kind, 65, 40):
                left = list(link.parts)
                for one in link.parts:
                    others = [other for other in left if other is not one]
                    if solve(kind, whole(Link(kind, others))) is None:
                        left = others
                wanted = () if works(link) else tuple(one.name for one in left)
                self.assertEqual(culprits(link), wanted)
                most = max(most, len(wanted))
                if wanted:
                    found = Link(kind, [link[name] for name in wanted])
                    self.assertIs(works(found), False)
                    for name in wanted:
                        self.assertIs(works(found - name), True)
            self.assertGreater(most, 1)


class BundleTest(unittest.TestCase):
    def test_example(self):
        link = chain(BITS, (0, 1))
        found = bundled(link, "all", shown=["c"])
        self.assertEqual((found.word, found.name, found.shown), ("bits", "all", ("c",)))
        self.assertEqual(found.hidden, ("a", "left.h", "wire.h"))
        self.assertEqual(found.theory, whole(link))

    def test_it_stands_for_the_link(self):
        for kind in KINDS:
            for link in made_links(kind, 66, 25):
                names = link.interface
                for shown in [(), names, names[::-1], names[1:]]:
                    given = list(shown)
                    found = bundled(link, "all", shown=given)
                    self.assertEqual(given, list(shown))
                    self.assertEqual(found.theory, whole(link))
                    self.assertEqual(found.shown, tuple(sorted(shown)))
                    wanted = shadow(kind, join(shadows(link)), shown=shown)
                    self.assertEqual(shadow(kind, found.theory, shown=found.shown), wanted)
                    self.assertIs(works(Link(kind, [found])), works(link))

    def test_no_parts_and_nothing_shown(self):
        for kind in KINDS:
            found = bundled(Link(kind, []), "none", shown=())
            self.assertEqual((found.theory, found.shown, found.word), (((), ()), (), kind.WORD))
            self.assertEqual(bundled(chain(kind), "all", shown=[]).shown, ())

    def test_bundles_in_links(self):
        for kind in KINDS:
            inner = bundled(chain(kind, (0, 0)), "in", shown=["a"])
            link = Link(kind, [inner, part(kind, "p", "a", "", *fixed(kind, "a", 1))])
            self.assertEqual(whole(link)[0], ("a", "in.c", "in.left.h", "in.wire.h"))
            self.assertEqual(culprits(link), ("in", "p"))

    def test_names_that_do_not_fit(self):
        link = chain(BITS)
        for shown, name in (
            (["h"], "h"), (["z", "y"], "z"), (["a", "left.h"], "left.h"), (["c", "c", "b"], "b"), (["", "a"], ""),
        ):
            with self.assertRaises(InvalidPart) as caught:
                bundled(link, "all", shown=shown)
            self.assertEqual(caught.exception.name, name)
        for shown, name in ((["c", "c"], "c"), (["c", "a", "c", "a"], "a"), (("a", "a"), "a")):
            with self.assertRaises(InvalidPart) as caught:
                bundled(link, "all", shown=shown)
            self.assertEqual(caught.exception.name, name)

    def test_the_name_of_the_bundle(self):
        link = chain(BITS)
        for name in ("", "A", "a.b", "123", "ninechars"):
            for shown in ((), ["a"], ["c", "c"]):
                with self.assertRaises(InvalidName) as caught:
                    bundled(link, name, shown=shown)
                self.assertEqual(caught.exception.name, name)
            with self.assertRaises(InvalidPart):
                bundled(link, name, shown=["zz"])


class UnchangedTest(unittest.TestCase):
    def test_parts_and_links_stay(self):
        for kind in KINDS:
            for link in made_links(kind, 67, 6):
                kept = copy.deepcopy(told(link)[1])
                for work in (whole, shadows, works, solution, culprits):
                    work(link)
                bundled(link, "all", shown=link.interface)
                self.assertEqual(told(link)[1], kept)
                for result in (whole(link), shadows(link), culprits(link), link.interface):
                    check_tuples(self, result)


class QuickTest(unittest.TestCase):
    def test_limits(self):
        for kind in KINDS:
            for link in limit_links(kind, 68, 6):
                start = perf_counter()
                for work in (whole, shadows, works, solution, culprits):
                    work(link)
                self.assertLess(perf_counter() - start, 4, kind.WORD)
                for chosen in combinations(link.interface, 2):
                    bundled(link, "all", shown=chosen)


if __name__ == "__main__":
    unittest.main()
