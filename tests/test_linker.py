"""Points 23, 24, 104 to 109, 122 to 127 and 136 to 150: the live linker."""

import copy
import inspect
import random
import unittest
from time import perf_counter

from shadowlinks.compare import compare, flattened, surrounding, works_in
from shadowlinks.errors import (
    Incompatible, InvalidConstraint, InvalidLink, InvalidPart, InvalidTheory, NothingToUndo, ShadowError, UnknownPart,
)
from shadowlinks.linker import Linker
from shadowlinks.links import Link, culprits, solution, works
from shadowlinks.parts import Part
from shadowlinks.shadows import follows, shadow
from shadowlinks.theories import join, widen
from tests.linkcases import (
    BITS, KINDS, ROWS, STEPS, WORDS, always, chain, fixed, limit_links, made_constraint, made_links, made_part, part, same,
)
from tests.texts import check_tuples

DEEDS = ("put", "take", "edit", "exchange", "release", "say", "unsay", "hide", "unhide", "flatten")
GATE = part(BITS, "gate", "x y", "z", (("x", 0), ("z", 1)), (("y", 1), ("z", 0)), (("x", 0), ("y", 1)))


def told(one):
    return one.word, one.name, one.shown, one.hidden, one.constraints


def shadow_of(kind, one):
    return shadow(kind, one.theory, shown=one.shown)


def answers(linker):
    """What the linker answers, without what depends on earlier calls."""
    return (
        [told(one) for one in linker], len(linker), linker.working, linker.current_solution(),
        linker.current_culprits(), linker.report(), [told(one) for one in linker.current_link()],
        [(linker.shadow_of(one.name), linker.surrounding_of(one.name)) for one in linker],
    )


def everything(linker):
    return answers(linker), linker.journal


class BasicsTest(unittest.TestCase):
    def test_a_new_linker(self):
        for kind in KINDS:
            linker = Linker(kind)
            self.assertIs(linker.kind, kind)
            self.assertEqual((len(linker), list(linker), linker.working, linker.journal), (0, [], True, ()))
            self.assertEqual(linker.current_solution(), {"": 0} if kind is WORDS else {})
            self.assertEqual(linker.current_culprits(), ())
            self.assertEqual(linker.report(), ("works",))
            self.assertEqual(linker.current_link().parts, ())

    def test_the_deeds(self):
        self.assertEqual(Linker.DEEDS, DEEDS)
        self.assertEqual(Linker(BITS).DEEDS, DEEDS)

    def test_of(self):
        for kind in KINDS:
            for link in made_links(kind, 111, 6):
                for parts in (list(link.parts), link.parts):
                    linker = Linker.of(kind, parts)
                    self.assertIs(linker.__class__, Linker)
                    self.assertEqual([told(one) for one in linker], [told(one) for one in link])
                    self.assertEqual(linker.journal, tuple(("put", one.name, 1) for one in link))
        for parts, error in (
            ([GATE, GATE], InvalidLink), ([Part.bare("rows", "p")], InvalidLink),
            ([part(BITS, "p", "a", "", (("b", 1),))], InvalidConstraint),
        ):
            with self.assertRaises(error):
                Linker.of(BITS, parts)

    def test_loop_length_membership_and_reading(self):
        linker = Linker.of(BITS, chain(BITS).parts)
        self.assertEqual([one.name for one in linker], ["left", "wire", "right"])
        self.assertEqual(len(linker), 3)
        self.assertIs("wire" in linker, True)
        self.assertIs("a" in linker, False)
        self.assertIs(linker["wire"], linker.current_link().parts[1])
        for work in (lambda: linker["x"], lambda: linker.shadow_of("x"), lambda: linker.surrounding_of("x")):
            with self.assertRaises(UnknownPart) as caught:
                work()
            self.assertEqual(caught.exception.name, "x")

    def test_reading_a_part_by_its_name(self):
        for kind in KINDS:
            for link in made_links(kind, 115, 6):
                linker = Linker.of(kind, link.parts)
                for one in link:
                    self.assertIs(linker[one.name], one)
                    self.assertEqual(linker.shadow_of(one.name), shadow_of(kind, one))
                for name in ("", "nobody", "left.x"):
                    with self.assertRaises(UnknownPart) as caught:
                        linker[name]
                    self.assertEqual(caught.exception.name, name)
        linker = Linker.of(BITS, chain(BITS).parts)
        linker.take("left")
        self.assertEqual([linker[name].name for name in ("wire", "right")], ["wire", "right"])
        for lacking, name in ((linker, "left"), (Linker(BITS), "wire")):
            with self.assertRaises(UnknownPart) as caught:
                lacking[name]
            self.assertEqual(caught.exception.name, name)

    def test_properties_and_generator(self):
        for name in ("working", "journal"):
            self.assertIsInstance(vars(Linker)[name], property)
        self.assertTrue(inspect.isgeneratorfunction(Linker.entries_about))

    def test_a_loop_goes_on_while_deeds_are_done(self):
        linker = Linker.of(BITS, chain(BITS).parts)
        for one in linker:
            linker.take(one.name)
        self.assertEqual(len(linker), 0)


class DeedsTest(unittest.TestCase):
    def setUp(self):
        self.linker = Linker.of(BITS, [*chain(BITS, (0, 0)).parts, GATE])

    def refused(self, error, value, deed, *arguments):
        """The deed raises the error and changes nothing, by its method and by perform."""
        before = everything(self.linker)
        for work in (getattr(self.linker, deed), lambda *given: self.linker.perform(deed, *given)):
            with self.assertRaises(error) as caught:
                work(*arguments)
            given = caught.exception
            self.assertEqual(getattr(given, "index", getattr(given, "name", None)), value)
            self.assertEqual(everything(self.linker), before)
        with self.assertRaises(NothingToUndo):
            self.linker.redo()

    def done(self, entry, deed, *arguments):
        """The deed returns None and has this entry."""
        before = self.linker.journal
        self.assertIsNone(getattr(self.linker, deed)(*arguments))
        self.assertEqual(self.linker.journal, (*before, entry))

    def names(self):
        return [one.name for one in self.linker]

    def test_put(self):
        new = part(BITS, "new", "a", "", (("a", 1),))
        self.done(("put", "new", 1), "put", new)
        self.assertIs(self.linker["new"], new)
        self.assertEqual(self.names(), ["left", "wire", "right", "gate", "new"])
        self.assertIs(self.linker.working, False)
        bad = (("zz", 1),)
        self.refused(InvalidLink, "new", "put", new)
        self.refused(InvalidLink, "wire", "put", part(BITS, "wire", "", "", bad))
        self.refused(InvalidLink, "n", "put", part(ROWS, "n", "", "", bad))
        self.refused(InvalidConstraint, 1, "put", part(BITS, "n", "a", "", (("a", 1),), bad, bad))

    def test_take(self):
        self.done(("take", "wire", 1), "take", "wire")
        self.assertEqual(self.names(), ["left", "right", "gate"])
        self.refused(UnknownPart, "wire", "take", "wire")
        self.refused(UnknownPart, "h", "take", "h")

    def test_edit(self):
        new = part(BITS, "wire", "a", "", (("a", 1),))
        self.done(("edit", "wire", 1), "edit", new)
        self.assertIs(self.linker["wire"], new)
        self.assertEqual(self.names(), ["left", "wire", "right", "gate"])
        bad = (("zz", 1),)
        self.refused(UnknownPart, "n", "edit", part(ROWS, "n", "", "", bad))
        self.refused(InvalidLink, "wire", "edit", part(ROWS, "wire", "", "", bad))
        self.refused(InvalidConstraint, 0, "edit", part(BITS, "wire", "a", "", bad, bad))

    def test_edit_with_the_same_shadow(self):
        self.done(("edit", "wire", 0), "edit", self.linker["wire"])
        flat = flattened(BITS, GATE)
        self.done(("edit", "gate", 0), "edit", flat)
        self.assertIs(self.linker["gate"], flat)

    def test_exchange(self):
        new = part(BITS, "new", "a", "", (("a", 1),))
        self.done(("exchange", "wire", 1), "exchange", "wire", new)
        self.assertEqual(self.names(), ["left", "new", "right", "gate"])
        self.done(("exchange", "new", 0), "exchange", "new", new.called("wire"))
        self.done(("exchange", "wire", 0), "exchange", "wire", new.called("wire"))
        self.assertEqual(self.names(), ["left", "wire", "right", "gate"])
        bad = (("zz", 1),)
        self.refused(UnknownPart, "n", "exchange", "n", part(ROWS, "wire", "", "", bad))
        self.refused(InvalidLink, "left", "exchange", "wire", part(BITS, "left", "", "", bad))
        self.refused(InvalidLink, "new", "exchange", "wire", part(ROWS, "new", "", "", bad))
        self.refused(InvalidConstraint, 0, "exchange", "wire", part(BITS, "new", "", "", bad))

    def test_release(self):
        self.done(("release", "gate", 0), "release", flattened(BITS, GATE))
        self.done(("release", "gate", 1), "release", part(BITS, "gate", "x y", ""))
        narrow = part(BITS, "gate", "x y", "", (("x", 1),))
        before = everything(self.linker)
        for new in (narrow, GATE):
            with self.assertRaises(Incompatible) as caught:
                self.linker.release(new)
            wanted = surrounding(BITS, self.linker["gate"], new)
            self.assertEqual(caught.exception.surrounding, wanted)
            self.assertEqual(everything(self.linker), before)
        self.linker.edit(narrow)
        with self.assertRaises(Incompatible) as caught:
            self.linker.release(part(BITS, "gate", "x y", "", (("y", 1),)))
        self.assertEqual(caught.exception.surrounding, (("x", "y"), ((("x", 1),), (("y", 0),))))

    def test_release_refused_for_other_reasons(self):
        bad = (("zz", 1),)
        self.refused(UnknownPart, "n", "release", part(ROWS, "n", "", "", bad))
        self.refused(InvalidLink, "gate", "release", part(ROWS, "gate", "x", "", bad))
        self.refused(InvalidConstraint, 1, "release", part(BITS, "gate", "x", "", (), bad))
        self.refused(InvalidPart, "y", "release", part(BITS, "gate", "x z", "", ()))
        self.refused(InvalidPart, "a", "release", part(BITS, "gate", "a x y", "", ()))

    def test_say(self):
        self.done(("say", "gate", 0), "say", "gate")
        self.done(("say", "gate", 0), "say", "gate", (("x", 0), ("y", 1)), (("x", 0), ("y", 1)))
        self.done(("say", "gate", 1), "say", "gate", (("y", 0),), (("x", 0), ("z", 0)))
        self.assertEqual(self.linker["gate"].constraints[-2:], ((("y", 0),), (("x", 0), ("z", 0))))
        self.assertEqual(len(self.linker["gate"]), 7)
        self.refused(UnknownPart, "n", "say", "n", (("zz", 1),))
        self.refused(InvalidConstraint, 8, "say", "gate", (("y", 0),), (("zz", 1),), (("zz", 1),))
        self.refused(InvalidConstraint, 7, "say", "gate", (("a", 0),))

    def test_unsay(self):
        self.done(("unsay", "gate", 0), "unsay", "gate", 2)
        self.done(("unsay", "gate", 1), "unsay", "gate", 0)
        self.assertEqual(self.linker["gate"].constraints, ((("y", 1), ("z", 0)),))
        for index in (-1, 1, 2, 99, -2):
            self.refused(InvalidConstraint, index, "unsay", "gate", index)
        self.refused(UnknownPart, "n", "unsay", "n", -1)

    def test_hide_and_unhide(self):
        self.done(("hide", "gate", 1), "hide", "gate", "y")
        self.assertEqual((self.linker["gate"].shown, self.linker["gate"].hidden), (("x",), ("y", "z")))
        self.done(("unhide", "gate", 1), "unhide", "gate", "z")
        self.assertEqual((self.linker["gate"].shown, self.linker["gate"].hidden), (("x", "z"), ("y",)))
        self.refused(UnknownPart, "n", "hide", "n", "y")
        self.refused(UnknownPart, "n", "unhide", "n", "y")
        for name in ("y", "q", ""):
            self.refused(InvalidPart, name, "hide", "gate", name)
        for name in ("x", "q", "", "a.b"):
            self.refused(InvalidPart, name, "unhide", "gate", name)

    def test_a_hidden_name_with_a_dot_cannot_be_shown(self):
        self.linker.put(part(BITS, "dotted", "", "a.b"))
        self.refused(InvalidPart, "a.b", "unhide", "dotted", "a.b")

    def test_flatten(self):
        self.done(("flatten", "gate", 0), "flatten", "gate")
        self.assertEqual(told(self.linker["gate"]), told(flattened(BITS, GATE)))
        self.done(("flatten", "gate", 0), "flatten", "gate")
        self.refused(UnknownPart, "n", "flatten", "n")

    def test_signs(self):
        linker, same_one = self.linker, self.linker
        before = linker.journal
        new = part(BITS, "new", "a", "")
        linker += new
        linker -= "wire"
        linker["left"] = part(BITS, "wire", "", "")
        self.assertIs(linker, same_one)
        self.assertEqual(linker.journal, (*before, ("put", "new", 1), ("take", "wire", 1), ("exchange", "left", 1)))
        self.assertEqual(self.names(), ["wire", "right", "gate", "new"])
        kept = everything(linker)
        with self.assertRaises(InvalidLink):
            linker += new
        with self.assertRaises(UnknownPart):
            linker -= "left"
        with self.assertRaises(UnknownPart):
            linker["left"] = new
        with self.assertRaises(InvalidLink):
            linker["wire"] = new
        with self.assertRaises(InvalidConstraint):
            linker["wire"] = part(BITS, "wire", "", "", (("a", 1),))
        self.assertEqual(everything(linker), kept)

    def test_entries(self):
        self.linker.take("wire")
        self.linker.undo()
        self.linker.say("gate")
        self.assertEqual(list(self.linker.entries_about("wire")), [("put", "wire", 1), ("take", "wire", 1), ("undo", "wire", 0)])
        self.assertEqual(list(self.linker.entries_about("gate")), [("put", "gate", 1), ("say", "gate", 0)])
        self.assertEqual(list(self.linker.entries_about("n")), [])


class LookedTest(unittest.TestCase):
    def test_every_kind(self):
        for kind in KINDS:
            linker = Linker.of(kind, chain(kind, (0, 0)).parts)
            if always(kind) is not None:
                linker.say("left", always(kind))
                self.assertEqual(linker.journal[-1], ("say", "left", 0))
                linker.unsay("left", len(linker["left"]) - 1)
                self.assertEqual(linker.journal[-1], ("unsay", "left", 0))
            linker.say("left", kind.contradiction())
            self.assertEqual(linker.journal[-1], ("say", "left", 1))
            self.assertIs(linker.working, False)
            linker.undo()
            for deed, looked in (
                (("flatten", "wire"), 0), (("hide", "wire", "c"), 1), (("unhide", "wire", "c"), 1),
                (("edit", linker["left"]), 0), (("release", linker["right"]), 0), (("take", "right"), 1),
                (("put", part(kind, "last", "", "")), 1), (("take", "last"), 1),
                (("exchange", "left", linker["left"].called("new")), 0),
            ):
                linker.perform(*deed)
                self.assertEqual(linker.journal[-1][2], looked, deed)


class UndoTest(unittest.TestCase):
    def test_steps(self):
        for kind in KINDS:
            linker = Linker(kind)
            seen = [everything(linker)]
            for one in (*chain(kind).parts, part(kind, "more", "a", "")):
                linker.put(one)
                seen.append(everything(linker))
            self.assertIsNone(linker.undo())
            self.assertEqual(answers(linker), seen[3][0])
            self.assertIsNone(linker.undo(steps=2))
            self.assertEqual(answers(linker), seen[1][0])
            undone = (("undo", "more", 0), ("undo", "right", 0), ("undo", "wire", 0))
            self.assertEqual(linker.journal, (*seen[4][1], *undone))
            for steps in (2, 7):
                kept = everything(linker)
                with self.assertRaises(NothingToUndo):
                    linker.undo(steps=steps)
                self.assertEqual(everything(linker), kept)
            self.assertIsNone(linker.redo(steps=2))
            self.assertEqual(answers(linker), seen[3][0])
            self.assertEqual(linker.journal, (*seen[4][1], *undone, ("redo", "wire", 0), ("redo", "right", 0)))
            with self.assertRaises(NothingToUndo):
                linker.redo(steps=2)
            self.assertIsNone(linker.redo())
            self.assertEqual(answers(linker), seen[4][0])
            with self.assertRaises(NothingToUndo):
                linker.redo()
            linker.undo(steps=4)
            self.assertEqual(answers(linker), seen[0][0])
            with self.assertRaises(NothingToUndo):
                linker.undo()

    def test_no_redo_after_a_new_deed(self):
        linker = Linker.of(BITS, chain(BITS).parts)
        linker.undo(steps=2)
        linker.say("left")
        with self.assertRaises(NothingToUndo):
            linker.redo()
        linker.undo(steps=2)
        self.assertEqual(len(linker), 0)
        with self.assertRaises(NothingToUndo):
            linker.undo()
        linker.redo()
        self.assertEqual([one.name for one in linker], ["left"])
        self.assertEqual([entry[:2] for entry in linker.journal[3:]], [
            ("undo", "right"), ("undo", "wire"), ("say", "left"), ("undo", "left"), ("undo", "left"), ("redo", "left"),
        ])

    def test_a_deed_that_fails_leaves_redo(self):
        linker = Linker.of(BITS, [GATE])
        linker.undo()
        with self.assertRaises(UnknownPart):
            linker.take("gate")
        linker.redo()
        self.assertEqual(len(linker), 1)

    def test_deeds_that_leave_the_parts_are_steps(self):
        linker = Linker.of(BITS, [GATE])
        linker.say("gate")
        linker.edit(GATE)
        linker.undo(steps=2)
        self.assertEqual(len(linker), 1)
        linker.undo()
        self.assertEqual(len(linker), 0)

    def test_the_exchanged_name(self):
        linker = Linker.of(BITS, [GATE])
        linker.exchange("gate", GATE.called("port"))
        linker.undo()
        linker.redo()
        self.assertEqual(linker.journal[1:], (("exchange", "gate", 0), ("undo", "gate", 0), ("redo", "gate", 0)))


class PerformTest(unittest.TestCase):
    def test_every_word(self):
        for kind in KINDS:
            by_word, by_method = Linker(kind), Linker(kind)
            left, wire, right = chain(kind).parts
            for word, *arguments in (
                ("put", left), ("put", wire), ("put", right), ("say", "left", kind.contradiction(), kind.contradiction()),
                ("say", "left"), ("unsay", "left", 0), ("hide", "wire", "a"), ("unhide", "wire", "h"), ("flatten", "wire"),
                ("edit", left), ("release", part(kind, "left", "a", "")), ("exchange", "right", right.called("r")),
                ("take", "wire"), ("undo",), ("undo",), ("redo",),
            ):
                self.assertIsNone(by_word.perform(word, *arguments))
                getattr(by_method, word)(*arguments)
                self.assertEqual(everything(by_word), everything(by_method))
        with self.assertRaises(NothingToUndo):
            Linker(BITS).perform("undo")
        with self.assertRaises(NothingToUndo):
            Linker(BITS).perform("redo")


class QuestionsTest(unittest.TestCase):
    def test_the_current_link(self):
        for kind in KINDS:
            for link in made_links(kind, 112, 20):
                linker = Linker.of(kind, link.parts)
                self.assertIs(linker.working, works(link))
                self.assertEqual(linker.current_solution(), solution(link))
                self.assertEqual(linker.current_culprits(), culprits(link))
                self.assertIsInstance(linker.current_link(), Link)
                self.assertEqual(linker.current_link().parts, link.parts)
                for one in link:
                    self.assertEqual(linker.shadow_of(one.name), shadow_of(kind, one))

    def test_a_new_solution_each_time(self):
        linker = Linker.of(STEPS, chain(STEPS, (1, 1)).parts)
        linker.current_solution()["a"] = 99
        self.assertEqual(linker.current_solution()["a"], 5)

    def test_why(self):
        for kind in KINDS:
            linker = Linker.of(kind, [part(kind, "odd", "b", ""), *chain(kind, (0, 0)).parts])
            linker.put(part(kind, "twin", "c", "", *fixed(kind, "c", 0)))
            for constraint in fixed(kind, "a", 0):
                self.assertEqual(linker.why(constraint), ("wire", "twin"))
            for constraint in fixed(kind, "c", 0):
                self.assertEqual(linker.why(constraint), ("twin",))
            self.assertIsNone(linker.why(fixed(kind, "b", 0)[0]))
            self.assertIsNone(linker.why(kind.contradiction()))
            if always(kind) is not None:
                self.assertEqual(linker.why(always(kind)), ())
            for name in ("h", "z", "left.h"):
                with self.assertRaises(InvalidConstraint) as caught:
                    linker.why(fixed(kind, name, 0)[0])
                self.assertEqual(caught.exception.index, 0)
        with self.assertRaises(InvalidConstraint):
            Linker.of(BITS, [GATE]).why((("y", 1), ("x", 1)))
        self.assertIsNone(Linker(BITS).why(()))
        self.assertEqual(Linker(STEPS).why(("", "", 0)), ())

    def test_what_point_147_says(self):
        for kind in KINDS:
            maker = random.Random(113)
            lengths = set()
            for link in made_links(kind, 114, 25):
                linker = Linker.of(kind, link.parts)
                names = link.interface
                asked = [made_constraint(maker, kind, names) for _ in range(4) if names]
                for constraint in [kind.contradiction(), *asked]:
                    def does_follow(parts):
                        theory = widen(join([shadow_of(kind, one) for one in parts]), *names)
                        return follows(kind, theory, constraint)

                    left = list(link.parts)
                    for one in link.parts:
                        if does_follow([other for other in left if other is not one]):
                            left.remove(one)
                    wanted = tuple(one.name for one in left) if does_follow(link.parts) else None
                    self.assertEqual(linker.why(constraint), wanted)
                    lengths.add(wanted and len(wanted))
            self.assertTrue({None, 1} <= lengths)

    def test_fits(self):
        for kind in KINDS:
            linker = Linker.of(kind, chain(kind, (0, 0)).parts)
            kept = everything(linker)
            zero, one = (part(kind, "new", "a", "c", *fixed(kind, "a", at), *fixed(kind, "c", 1)) for at in (0, 1))
            self.assertIs(linker.fits(zero), True)
            self.assertIs(linker.fits(one), False)
            # An edition of wire would take the place of the one that is there.
            self.assertIs(linker.fits(part(kind, "wire", "a c", "", *fixed(kind, "c", 0))), True)
            self.assertIs(linker.fits(part(kind, "wire", "a c", "", *fixed(kind, "c", 1))), False)
            self.assertIs(linker.fits(part(kind, "right", "c", "", *fixed(kind, "c", 1))), False)
            self.assertIs(linker.fits(part(kind, "right", "b", "", *fixed(kind, "b", 1))), True)
            self.assertEqual(everything(linker), kept)

    def test_fits_refused(self):
        linker = Linker.of(BITS, [GATE])
        for wrong, error, value in (
            (part(ROWS, "n", "", "", "bad"), InvalidLink, "n"), (part(ROWS, "gate", "", "", "bad"), InvalidLink, "gate"),
            (part(BITS, "gate", "x", "", (), (("y", 1),)), InvalidConstraint, 1),
        ):
            with self.assertRaises(error) as caught:
                linker.fits(wrong)
            self.assertEqual(getattr(caught.exception, "name", getattr(caught.exception, "index", None)), value)

    def test_fits_is_put_or_edit(self):
        for kind in KINDS:
            maker = random.Random(115)
            for link in made_links(kind, 116, 25):
                linker = Linker.of(kind, link.parts)
                for name in ("p", "q", "new"):
                    one = made_part(maker, kind, name)
                    other = Linker.of(kind, link.parts)
                    other.perform("edit" if name in other else "put", one)
                    self.assertIs(linker.fits(one), other.working)

    def test_surroundings(self):
        for kind in KINDS:
            linker = Linker.of(kind, chain(kind, (0, 0)).parts)
            self.assertEqual(linker.surrounding_of("wire"), kind.normal((("a", "c"), (*fixed(kind, "a", 0), *fixed(kind, "c", 0)))))
            linker.put(part(kind, "alone", "b c", ""))
            self.assertEqual(linker.surrounding_of("alone"), kind.normal((("b", "c"), fixed(kind, "c", 0))))
            linker.say("left", kind.contradiction())
            self.assertEqual(linker.surrounding_of("alone"), kind.normal((("b", "c"), (kind.contradiction(),))))
            single = Linker.of(kind, [part(kind, "p", "a", "", *fixed(kind, "a", 1))])
            self.assertEqual(single.surrounding_of("p"), kind.normal((("a",), ())))

    def test_what_point_149_says(self):
        for kind in KINDS:
            for link in made_links(kind, 117, 20):
                linker = Linker.of(kind, link.parts)
                for one in link:
                    found = linker.surrounding_of(one.name)
                    check_tuples(self, found)
                    others = join([shadow_of(kind, other) for other in link if other is not one])
                    shown = [name for name in one.shown if name in others[0]]
                    self.assertEqual(found, kind.normal(widen(shadow(kind, others, shown=shown), *one.shown)))
                    self.assertIs(works_in(kind, one, found), linker.working)


class ReportTest(unittest.TestCase):
    def test_example(self):
        self.assertEqual(Linker.of(BITS, [GATE]).report(), ("gate       2   1   3   1", "works"))

    def test_wide_numbers_and_names(self):
        many = part(BITS, "eightltr", "a", "", *[(("a", 1),)] * 1234)
        self.assertEqual(Linker.of(BITS, [many]).report()[0], "eightltr   1   0 1234   1")
        many = part(BITS, "p", "a", "", *[(("a", 1),)] * 100)
        self.assertEqual(Linker.of(BITS, [many]).report()[0], "p          1   0 100   1")

    def test_a_clash(self):
        for kind in KINDS:
            linker = Linker.of(kind, [part(kind, "odd", "", ""), *chain(kind, (0, 1)).parts])
            self.assertEqual(linker.report()[-1], "clash left wire right")
            linker.take("wire")
            self.assertEqual(linker.report()[-1], "works")

    def test_lines(self):
        for kind in KINDS:
            for link in made_links(kind, 118, 15):
                found = Linker.of(kind, link.parts).report()
                check_tuples(self, found)
                self.assertEqual(len(found), len(link) + 1)
                for one, line in zip(link, found):
                    numbers = (len(one.shown), len(one.hidden), len(one), len(shadow_of(kind, one)[1]))
                    self.assertEqual(line, one.name.ljust(8) + "".join(" " + str(number).rjust(3) for number in numbers))


class RandomTest(unittest.TestCase):
    """Many deeds, against a list of parts and lists of what was there before."""

    def deed(self, maker, kind, names):
        name = maker.choice([*names, *names, "p", "q", "n"])
        word = maker.choice((*DEEDS, "undo", "undo", "redo", "put"))
        own = made_part(maker, kind, maker.choice(("p", "q", "r", name)), most=3)
        if word in ("put", "edit", "release"):
            return word, own
        if word == "exchange":
            return word, name, own
        if word in ("take", "flatten"):
            return word, name
        if word in ("hide", "unhide"):
            return word, name, maker.choice(("a", "b", "c", "h", "k", "a.x"))
        if word == "unsay":
            return word, name, maker.randrange(-1, 3)
        if word == "say":
            return word, name, *[made_constraint(maker, kind, ["a", "h"]) for _ in range(maker.randrange(3))]
        return (word,)

    def changed(self, kind, parts, deed):
        """The parts after a deed that succeeds."""
        word, *rest = deed
        if word == "put":
            return [*parts, rest[0]]
        if word == "take":
            return [one for one in parts if one.name != rest[0]]
        name = rest[0] if isinstance(rest[0], str) else rest[0].name
        old = next(one for one in parts if one.name == name)
        new = {
            "edit": lambda: rest[0], "release": lambda: rest[0], "exchange": lambda: rest[1],
            "say": lambda: old.with_constraints([*old, *rest[1:]]),
            "unsay": lambda: old.with_constraints([one for at, one in enumerate(old) if at != rest[1]]),
            "hide": lambda: old - rest[1], "unhide": lambda: old.reveal(rest[1]), "flatten": lambda: flattened(kind, old),
        }[word]()
        return [new if one is old else one for one in parts]

    def test_many_deeds(self):
        for kind in KINDS:
            maker = random.Random(119)
            linker, parts, before, after, journal = Linker(kind), [], [], [], []
            succeeded = set()
            for _ in range(150):
                deed = self.deed(maker, kind, [one.name for one in parts])
                kept = everything(linker)
                try:
                    linker.perform(*deed)
                except ShadowError:
                    self.assertEqual(everything(linker), kept)
                    continue
                succeeded.add(deed[0])
                if deed[0] == "undo":
                    old, name = before.pop()
                    after.append((parts, name))
                    parts = old
                    journal.append(("undo", name, 0))
                elif deed[0] == "redo":
                    new, name = after.pop()
                    before.append((parts, name))
                    parts = new
                    journal.append(("redo", name, 0))
                else:
                    name = deed[1] if isinstance(deed[1], str) else deed[1].name
                    new = self.changed(kind, parts, deed)
                    looked = [shadow_of(kind, one) for one in new] != [shadow_of(kind, one) for one in parts]
                    journal.append((deed[0], name, int(looked)))
                    before.append((parts, name))
                    after.clear()
                    parts = new
                self.assertEqual(linker.journal, tuple(journal))
                self.assertEqual([told(one) for one in linker], [told(one) for one in parts])
                self.assertEqual(answers(linker), answers(Linker.of(kind, parts)))
            self.assertGreaterEqual(len(succeeded), 10, kind.WORD)


class ErrorsTest(unittest.TestCase):
    def test_release_asks_compare(self):
        for kind in KINDS:
            maker = random.Random(120)
            found = set()
            for _ in range(60):
                old, new = made_part(maker, kind, "p", "ab"), made_part(maker, kind, "p", "ab")
                linker = Linker.of(kind, [old])
                try:
                    linker.release(new)
                    self.assertIn(compare(kind, old, new), ("alike", "wider"))
                    self.assertIs(linker["p"], new)
                    found.add("done")
                except Incompatible as error:
                    self.assertIn(compare(kind, old, new), ("narrower", "apart"))
                    self.assertEqual(error.surrounding, surrounding(kind, old, new))
                    self.assertIs(linker["p"], old)
                    found.add("incompatible")
                except InvalidPart as error:
                    self.assertEqual(error.name, min(set(old.shown) ^ set(new.shown)))
                    found.add("invalid")
            self.assertEqual(found, {"done", "incompatible", "invalid"})

    def test_theories_of_parts_are_checked(self):
        # A part cannot have bad names, so only its constraints can be invalid.
        self.assertTrue(issubclass(InvalidTheory, ShadowError))
        linker = Linker(BITS)
        with self.assertRaises(InvalidConstraint) as caught:
            linker.put(part(BITS, "p", "b", "a", (("a", 1), ("b", 0)), (("b", 1), ("a", 0))))
        self.assertEqual(caught.exception.index, 1)
        self.assertEqual((len(linker), linker.journal), (0, ()))


class UnchangedTest(unittest.TestCase):
    def test_parts_stay(self):
        for kind in KINDS:
            parts = list(chain(kind).parts)
            kept = copy.deepcopy([told(one) for one in parts])
            linker = Linker.of(kind, parts)
            linker.say("wire", kind.contradiction())
            linker.flatten("left")
            linker.hide("wire", "a")
            linker.take("right")
            linker.undo(steps=3)
            self.assertEqual([told(one) for one in parts], kept)
            parts.clear()
            self.assertEqual(len(linker), 3)

    def test_links_that_were_returned_stay(self):
        linker = Linker.of(BITS, chain(BITS).parts)
        link, journal = linker.current_link(), linker.journal
        linker.take("wire")
        self.assertEqual(len(link), 3)
        self.assertEqual(len(journal), 3)


class QuickTest(unittest.TestCase):
    def test_limits(self):
        for kind in KINDS:
            for link in limit_links(kind, 121, 3):
                linker = Linker(kind)
                for one in link.parts:
                    start = perf_counter()
                    linker.put(one)
                    self.assertLess(perf_counter() - start, 3, kind.WORD)
                for work in (
                    linker.report, linker.current_solution, linker.current_culprits, lambda: linker.surrounding_of("p0"),
                    lambda: linker.why(kind.contradiction()), lambda: linker.fits(link.parts[1]),
                    lambda: linker.flatten("p2"), linker.undo, lambda: linker.hide("p3", link["p3"].shown[0]),
                ):
                    start = perf_counter()
                    work()
                    self.assertLess(perf_counter() - start, 3, kind.WORD)


if __name__ == "__main__":
    unittest.main()
