"""Points 23, 34, 127, 138 to 147, 150, 161 and 162: the desk."""

import unittest
from time import perf_counter

from shadowlinks.compare import flattened
from shadowlinks.desk import Desk
from shadowlinks.errors import InvalidText
from shadowlinks.linker import Linker
from shadowlinks.notation import format_constraint
from shadowlinks.parttexts import format_part
from shadowlinks.scripts import format_script, read_script
from shadowlinks.valuetexts import format_assignment
from tests.linkcases import BITS, KINDS, LINES, WORDS, always, chain, fixed, limit_links, made_links, part
from tests.texts import check_tuples
from tests.test_scripts import made_commands

GATE = ("part gate bits", "show x y", "hide z", "say -x z", "say y -z", "say -x y", "end")
DONE = ("done",)


def told(linker):
    return [(one.name, one.shown, one.hidden, one.constraints) for one in linker], linker.journal


class DeskTest(unittest.TestCase):
    def test_a_new_desk(self):
        for kind in KINDS:
            desk = Desk(kind)
            self.assertIsInstance(desk.linker, Linker)
            self.assertIs(desk.linker.kind, kind)
            self.assertEqual((len(desk.linker), desk.saved()), (0, ()))
            self.assertEqual(desk.run([]), ())
            solution = "=0" if kind is WORDS else ""
            asked = ("ask works", "ask solution", "ask report", "ask parts")
            self.assertEqual(desk.run(asked), (("works",), (solution,), ("works",), ()))

    def test_a_script(self):
        desk = Desk(BITS)
        replies = desk.run([
            *GATE, "ask works", "ask report", "ask shadow gate", "ask why -x y", "ask why x", "say gate x", "ask solution",
            "part foe bits", "show y", "hide", "say -y", "end", "ask works", "ask solution", "ask report", "undo", "redo",
            "take gate", "ask parts", "undo", "ask works",
        ])
        gate_line = "gate       2   1   4   2"
        self.assertEqual(replies, (
            DONE, ("works",), ("gate       2   1   3   1", "works"),
            ("part gate bits", "show x y", "hide", "say -x y", "end"), ("because gate",), ("open",), DONE,
            ("gate.z=1 x=1 y=1",), DONE, ("clash gate foe",), ("none",),
            (gate_line, "foe        1   0   1   1", "clash gate foe"), DONE, DONE, DONE,
            ("part foe bits", "show y", "hide", "say -y", "end"), DONE, ("clash gate foe",),
        ))
        check_tuples(self, replies)

    def test_a_bad_line_before_anything_is_done(self):
        desk = Desk(BITS)
        for lines, number in (((*GATE, "take gate", "x"), 9), (("undo", "edit"), 3), (["x", *GATE], 1)):
            with self.assertRaises(InvalidText) as caught:
                desk.run(lines)
            self.assertEqual(caught.exception.line, number)
            self.assertEqual(told(desk.linker), ([], ()))

    def test_runs_go_on(self):
        desk = Desk(BITS)
        self.assertEqual(desk.run(GATE), (DONE,))
        self.assertEqual(desk.run(["hide gate x"]), (DONE,))
        self.assertEqual(desk.linker["gate"].shown, ("y",))
        self.assertEqual(desk.run(("undo", "undo", "undo", "ask parts")), (DONE, DONE, ("refused nothing",), ()))

    def test_saved(self):
        for kind in KINDS:
            for link in made_links(kind, 161, 15):
                desk = Desk(kind)
                lines = [line for one in link for line in format_part(one)]
                self.assertEqual(desk.run(lines), (DONE,) * len(link))
                self.assertEqual(desk.saved(), tuple(lines))
                self.assertEqual(desk.run(["ask parts"]), (tuple(lines),))
                other = Desk(kind)
                other.run(desk.saved())
                self.assertEqual(told(other.linker), told(desk.linker))

    def test_lines_stay(self):
        lines = [*GATE, "ask works"]
        kept = list(lines)
        Desk(BITS).run(lines)
        self.assertEqual(lines, kept)


class QuestionsTest(unittest.TestCase):
    def test_every_kind(self):
        for kind in KINDS:
            for ends in ((0, 0), (0, 1), (1, 1)):
                desk, link = Desk(kind), chain(kind, ends)
                desk.run([line for one in link for line in format_part(one)])
                linker, before = desk.linker, told(desk.linker)
                works = "works" if linker.working else "clash left wire right"
                solution = linker.current_solution()
                text = "none" if solution is None else format_assignment(kind.WORD, solution)
                self.assertEqual(desk.run(["ask works"]), ((works,),))
                self.assertEqual(desk.run(["ask solution"]), ((text,),))
                self.assertEqual(desk.run(["ask report"]), (linker.report(),))
                self.assertEqual(desk.run(["ask parts"]), (desk.saved(),))
                for one in link:
                    self.assertEqual(desk.run([f"ask shadow {one.name}"]), (format_part(flattened(kind, one)),))
                for name in ("a", "c"):
                    for constraint in fixed(kind, name, 0):
                        names = linker.why(constraint)
                        wanted = "open" if names is None else " ".join(("because", *names))
                        asked = f"ask why {format_constraint(kind.WORD, constraint)}"
                        self.assertEqual(desk.run([asked]), ((wanted,),))
                self.assertEqual(told(linker), before)

    def test_because_of_nothing(self):
        for kind in KINDS:
            if always(kind) is not None:
                asked = f"ask why {format_constraint(kind.WORD, always(kind))}"
                self.assertEqual(Desk(kind).run([asked]), (("because",),))

    def test_fractions_and_words(self):
        desk = Desk(LINES)
        desk.run(["part p lines", "show a", "hide h", "say 2 a = 1", "say 3 a + -1 h = 0", "end"])
        self.assertEqual(desk.run(["ask solution"]), (("a=1/2 p.h=3/2",),))
        desk = Desk(WORDS)
        desk.run(["part p words", "show x", "hide", "say x : 1,. .,2 !.,.", "end"])
        self.assertEqual(desk.run(["ask solution"]), (("=2 x=ab",),))


class RefusedTest(unittest.TestCase):
    def setUp(self):
        self.desk = Desk(BITS)
        self.desk.run([*GATE, "part wire bits", "show x", "hide a.b", "end"])

    def refused(self, lines, *reply):
        before = told(self.desk.linker)
        self.assertEqual(self.desk.run(lines), (reply,), lines)
        self.assertEqual(told(self.desk.linker), before)
        self.assertEqual(self.desk.run(["ask works", *lines, "ask works"]), (("works",), reply, ("works",)))

    def test_every_error(self):
        bad = ("show x", "hide", "say x", "end")
        self.refused(["say gate q"], "refused constraint 3")
        self.refused(["unsay gate 3"], "refused constraint 3")
        self.refused(["unsay gate -1"], "refused constraint -1")
        self.refused(["ask why z"], "refused constraint 0")
        self.refused(["hide gate z"], "refused part z")
        self.refused(["unhide gate x"], "refused part x")
        self.refused(["unhide wire a.b"], "refused part a.b")
        self.refused(["unhide wire b.a"], "refused part b.a")
        self.refused(["release", "part gate bits", *bad], "refused part y")
        self.refused(["part gate bits", *bad], "refused link gate")
        self.refused(["exchange gate", "part wire bits", *bad], "refused link wire")
        self.refused(["edit", "part new bits", *bad], "refused unknown new")
        self.refused(["release", "part new bits", *bad], "refused unknown new")
        self.refused(["exchange new", "part wire bits", *bad], "refused unknown new")
        for line in ("take n", "flatten n", "hide n x", "unhide n x", "say n x", "unsay n 0", "ask shadow n"):
            self.refused([line], "refused unknown n")
        self.refused(["redo"], "refused nothing")

    def test_editions(self):
        narrow = ("release", "part gate bits", "show x y", "hide", "say y", "end")
        self.refused(narrow, "refused edition", "-x", "-y")
        for kind in KINDS:
            desk = Desk(kind)
            desk.run(format_part(part(kind, "p", "a b", "")))
            narrow = part(kind, "p", "a b", "", *fixed(kind, "b", 1))
            with self.assertRaises(Exception) as caught:
                desk.linker.release(narrow)
            wanted = [format_constraint(kind.WORD, one) for one in caught.exception.surrounding[1]]
            self.assertEqual(desk.run(["release", *format_part(narrow)]), (("refused edition", *wanted),))
            self.assertGreater(len(wanted), 0)

    def test_an_edition_that_never_works(self):
        for kind in KINDS:
            desk = Desk(kind)
            desk.run(format_part(part(kind, "p", "", "")))
            never = format_part(part(kind, "p", "", "h", kind.contradiction()))
            pinned = kind.pin((), {"": 0} if kind is WORDS else {})[1]
            wanted = [format_constraint(kind.WORD, one) for one in pinned]
            self.assertEqual(desk.run(["release", *never]), (("refused edition", *wanted),))

    def test_the_commands_after_it(self):
        found = self.desk.run(["take n", "take wire", "take wire", "hide gate x", "hide gate x", "undo", "redo", "redo"])
        self.assertEqual(found, (
            ("refused unknown n",), DONE, ("refused unknown wire",), DONE, ("refused part x",), DONE, DONE,
            ("refused nothing",),
        ))


class ScriptsTest(unittest.TestCase):
    def test_deeds_are_what_perform_does(self):
        for kind in KINDS:
            desk, linker = Desk(kind), Linker(kind)
            replies = set()
            for command in made_commands(kind, 162, 150):
                lines = format_script(kind, [command])
                reply, = desk.run(lines)
                replies.update(line.split(" ")[0] for line in reply)
                if command[0] != "ask":
                    command, = read_script(kind, lines)
                    if reply == DONE:
                        linker.perform(*command)
                    else:
                        self.assertTrue(reply[0].startswith("refused "))
                        with self.assertRaises(ValueError):
                            linker.perform(*command)
                self.assertEqual(told(desk.linker), told(linker))
            self.assertTrue({"done", "refused"} <= replies)

    def test_one_script_or_many(self):
        for kind in KINDS:
            commands = list(made_commands(kind, 163, 60))
            one, many = Desk(kind), Desk(kind)
            replies = one.run(format_script(kind, commands))
            self.assertEqual(replies, tuple(many.run(format_script(kind, [command]))[0] for command in commands))
            self.assertEqual(one.saved(), many.saved())
            self.assertEqual(one.linker.journal, many.linker.journal)


class QuickTest(unittest.TestCase):
    def test_limits(self):
        for kind in KINDS:
            for link in limit_links(kind, 164, 2):
                desk = Desk(kind)
                start = perf_counter()
                lines = [line for one in link for line in format_part(one)]
                desk.run([*lines, "ask works", "ask solution", "ask report", "ask parts", "ask shadow p1", "undo", "redo"])
                self.assertLess(perf_counter() - start, 8, kind.WORD)


if __name__ == "__main__":
    unittest.main()
