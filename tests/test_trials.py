"""Points 23, 138, 144 to 146 and 151 to 153: trials, batches, and deeds done in them."""

import unittest

from shadowlinks.errors import InvalidLink, NothingToUndo, UnknownPart
from shadowlinks.linker import Linker
from shadowlinks.links import Link, culprits, works
from shadowlinks.trials import Batch, Trial, attempt, commit
from tests.linkcases import BITS, KINDS, WORDS, chain, fixed, made_links, part


class OwnError(Exception):
    pass


def told(linker):
    return [(one.name, one.shown, one.hidden, one.constraints) for one in linker]


def everything(linker):
    """What the linker has: its parts and answers, the journal, and what can be undone and redone."""
    found = [told(linker), linker.working, linker.current_solution(), linker.report(), linker.journal]
    return found, steps(linker, "undo"), steps(linker, "redo")


def steps(linker, word):
    """The parts after one step, two steps and so on, as long as there are any; nothing changes."""
    found = []
    with Trial(linker):
        while True:
            try:
                linker.perform(word)
            except NothingToUndo:
                return found
            found.append((told(linker), linker.journal[-1]))


def started(kind):
    """A linker with two deeds that can be taken back and one that can be done again."""
    linker = Linker.of(kind, chain(kind, (0, 1)).parts)
    linker.undo()
    return linker


class TrialTest(unittest.TestCase):
    def test_everything_comes_back(self):
        for kind in KINDS:
            linker = started(kind)
            before = everything(linker)
            trial = Trial(linker)
            with trial as held:
                self.assertIs(held, linker)
                linker.redo()
                linker.take("left")
                linker.put(part(kind, "new", "a", ""))
                linker.undo(steps=2)
                linker.say("wire")
                self.assertEqual(len(linker.journal), len(before[0][-1]) + 6)
            self.assertEqual(everything(linker), before)
            linker.take("left")
            after = everything(linker)
            with trial:
                linker.undo(steps=3)
                self.assertEqual(len(linker), 0)
            self.assertEqual(everything(linker), after)

    def test_nothing_done(self):
        linker = started(BITS)
        before = everything(linker)
        with Trial(linker):
            pass
        self.assertEqual(everything(linker), before)

    def test_errors_are_passed_on(self):
        for kind in KINDS:
            linker = started(kind)
            before = everything(linker)
            with self.assertRaises(OwnError):
                with Trial(linker) as held:
                    held.take("left")
                    raise OwnError()
            self.assertEqual(everything(linker), before)
            with self.assertRaises(UnknownPart) as caught:
                with Trial(linker) as held:
                    held.take("wire")
                    held.take("wire")
            self.assertEqual(caught.exception.name, "wire")
            self.assertEqual(everything(linker), before)

    def test_the_beginning_of_the_block_counts(self):
        linker = Linker(BITS)
        trial = Trial(linker)
        linker.put(part(BITS, "p", "", ""))
        with trial:
            linker.take("p")
        self.assertEqual(len(linker), 1)

    def test_trials_in_trials(self):
        linker = started(BITS)
        before = everything(linker)
        with Trial(linker):
            linker.take("left")
            inner = everything(linker)
            with Trial(linker):
                linker.undo(steps=2)
            self.assertEqual(everything(linker), inner)
        self.assertEqual(everything(linker), before)


class BatchTest(unittest.TestCase):
    def test_one_step(self):
        for kind in KINDS:
            linker = started(kind)
            parts, entries = told(linker), linker.journal
            earlier = steps(linker, "undo")
            with Batch(linker) as held:
                self.assertIs(held, linker)
                held.take("left")
                held.put(part(kind, "new", "a", "", *fixed(kind, "a", 1)))
                held.say("wire")
            after = told(linker)
            self.assertEqual([one[0] for one in after], ["wire", "new"])
            entries = (*entries, ("take", "left", 1), ("put", "new", 1), ("say", "wire", 0))
            self.assertEqual(linker.journal, entries)
            self.assertEqual(steps(linker, "redo"), [])
            linker.undo()
            self.assertEqual(told(linker), parts)
            self.assertEqual(linker.journal, (*entries, ("undo", "", 0)))
            self.assertEqual(steps(linker, "undo"), earlier)
            linker.redo()
            self.assertEqual(told(linker), after)
            self.assertEqual(linker.journal, (*entries, ("undo", "", 0), ("redo", "", 0)))
            self.assertEqual(list(linker.entries_about("")), [("undo", "", 0), ("redo", "", 0)])
            linker.undo(steps=2)
            self.assertEqual(told(linker), earlier[0][0])
            self.assertIs(linker.working, True)

    def test_nothing_done(self):
        linker = started(BITS)
        parts, entries, earlier = told(linker), linker.journal, steps(linker, "undo")
        with Batch(linker):
            pass
        self.assertEqual((told(linker), linker.journal), (parts, entries))
        with self.assertRaises(NothingToUndo):
            linker.redo()
        self.assertEqual(steps(linker, "undo"), [(parts, ("undo", "", 0)), *earlier])

    def test_undo_and_redo_inside(self):
        for kind in KINDS:
            linker = started(kind)
            parts, earlier = told(linker), steps(linker, "undo")
            with Batch(linker):
                linker.undo(steps=2)
                self.assertEqual(len(linker), 0)
                linker.redo()
            self.assertEqual([one[0] for one in told(linker)], ["left"])
            self.assertEqual(linker.journal[-3:], (("undo", "wire", 0), ("undo", "left", 0), ("redo", "left", 0)))
            self.assertEqual(steps(linker, "redo"), [])
            self.assertEqual(steps(linker, "undo"), [(parts, ("undo", "", 0)), *earlier])

    def test_an_error(self):
        for kind in KINDS:
            linker = started(kind)
            before = everything(linker)
            with self.assertRaises(OwnError):
                with Batch(linker) as held:
                    held.undo()
                    held.put(part(kind, "new", "", ""))
                    raise OwnError()
            self.assertEqual(everything(linker), before)
            linker.redo()
            self.assertEqual(len(linker), 3)

    def test_a_batch_twice_and_batches_in_blocks(self):
        linker = Linker(BITS)
        batch = Batch(linker)
        for name in ("p", "q"):
            with batch:
                linker.put(part(BITS, name, "", ""))
                linker.put(part(BITS, name + "x", "", ""))
        self.assertEqual([len(parts) for parts, _ in steps(linker, "undo")], [2, 0])
        with Batch(linker):
            with Batch(linker):
                linker.take("p")
            linker.take("q")
            self.assertEqual([len(parts) for parts, _ in steps(linker, "undo")], [3, 4, 2, 0])
        self.assertEqual([len(parts) for parts, _ in steps(linker, "undo")], [4, 2, 0])
        before = everything(linker)
        with Trial(linker):
            with batch:
                linker.take("px")
        self.assertEqual(everything(linker), before)

    def test_classes(self):
        self.assertTrue(issubclass(Batch, Trial))
        for made in (Trial, Batch):
            for name in ("__init__", "__enter__", "__exit__"):
                self.assertIn(name, vars(made))


class AttemptTest(unittest.TestCase):
    def test_what_the_linker_would_answer(self):
        for kind in KINDS:
            linker = started(kind)
            before = everything(linker)
            right = chain(kind, (0, 1)).parts[2]
            self.assertEqual(attempt(linker, []), (True, ()))
            self.assertEqual(attempt(linker, [("put", right)]), (False, ("left", "wire", "right")))
            self.assertEqual(attempt(linker, (("redo",), ("take", "left"))), (True, ()))
            self.assertEqual(attempt(linker, (("undo",), ("put", right), ("undo",), ("redo",))), (True, ()))
            self.assertEqual(attempt(linker, [("say", "wire", kind.contradiction())]), (False, ("wire",)))
            self.assertEqual(everything(linker), before)

    def test_an_error(self):
        linker = started(BITS)
        before = everything(linker)
        for deeds, error in (
            ([("take", "left"), ("take", "left"), ("take", "wire")], UnknownPart), ([("redo",), ("redo",)], NothingToUndo),
            ([("put", part(BITS, "left", "", ""))], InvalidLink),
        ):
            with self.assertRaises(error):
                attempt(linker, deeds)
            self.assertEqual(everything(linker), before)

    def test_links(self):
        for kind in KINDS:
            for link in made_links(kind, 131, 15):
                linker = Linker(kind)
                deeds = [("put", one) for one in link]
                kept = list(deeds)
                self.assertEqual(attempt(linker, deeds), (works(link), culprits(link)))
                self.assertEqual((deeds, len(linker), linker.journal), (kept, 0, ()))


class CommitTest(unittest.TestCase):
    def test_one_step(self):
        for kind in KINDS:
            linker = started(kind)
            parts, earlier = told(linker), steps(linker, "undo")
            right = chain(kind, (0, 1)).parts[2]
            self.assertIs(commit(linker, [("put", right), ("say", "left")]), False)
            self.assertIs(linker.working, False)
            self.assertEqual(steps(linker, "undo"), [(parts, ("undo", "", 0)), *earlier])
            self.assertIs(commit(linker, (("take", "wire"),)), True)
            self.assertIs(commit(linker, ()), True)
            linker.undo(steps=3)
            self.assertEqual(told(linker), parts)

    def test_an_error(self):
        linker = started(BITS)
        before = everything(linker)
        with self.assertRaises(UnknownPart) as caught:
            commit(linker, [("take", "left"), ("take", "n"), ("take", "wire")])
        self.assertEqual(caught.exception.name, "n")
        self.assertEqual(everything(linker), before)

    def test_links(self):
        for kind in KINDS:
            for link in made_links(kind, 132, 15):
                linker = Linker(kind)
                self.assertIs(commit(linker, tuple(("put", one) for one in link)), works(link))
                self.assertEqual(linker.report(), Linker.of(kind, link.parts).report())
                linker.undo()
                self.assertEqual(len(linker), 0)
                with self.assertRaises(NothingToUndo):
                    linker.undo()
        self.assertIs(commit(Linker(WORDS), []), works(Link(WORDS, [])))


if __name__ == "__main__":
    unittest.main()
