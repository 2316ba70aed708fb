"""Points 23 to 35, 159 and 160: scripts."""

import copy
import random
import unittest

from shadowlinks.errors import InvalidText
from shadowlinks.notation import format_constraint
from shadowlinks.parttexts import format_part
from shadowlinks.scripts import format_script, read_script
from tests.linkcases import BITS, KINDS, LINES, ROWS, STEPS, WHOLES, WORDS, chain, made_constraint, made_part
from tests.texts import LONG

GATE = ("part gate bits", "show x y", "hide z", "say -x z", "say y -z", "end")


def told(command):
    """The command with what its parts show."""
    return tuple(
        (one.word, one.name, one.shown, one.hidden, one.constraints) if hasattr(one, "shown") else one for one in command
    )


def made_commands(kind, seed, count):
    maker = random.Random(seed)
    for _ in range(count):
        word = maker.choice((
            "put", "edit", "release", "exchange", "take", "flatten", "hide", "unhide", "say", "unsay", "undo", "redo", "ask",
            "ask",
        ))
        name, other = maker.sample(("p", "q1", "part", "end", "say", "abcdefgh", "works", "why"), 2)
        constraint = maker.choice((kind.contradiction(), made_constraint(maker, kind, ["a", "b.c", "d"])))
        own = made_part(maker, kind, other)
        yield {
            "put": lambda: (word, own), "edit": lambda: (word, own), "release": lambda: (word, own),
            "exchange": lambda: (word, name, own), "take": lambda: (word, name), "flatten": lambda: (word, name),
            "hide": lambda: (word, name, other), "unhide": lambda: (word, name, maker.choice((other, "a.x", "a.b.c1"))),
            "say": lambda: (word, name, constraint), "unsay": lambda: (word, name, maker.choice((0, 3, -7, 10, LONG))),
            "undo": lambda: (word,), "redo": lambda: (word,),
            "ask": lambda: maker.choice((
                (word, "works"), (word, "solution"), (word, "report"), (word, "parts"), (word, "shadow", name),
                (word, "why", constraint),
            )),
        }[word]()


class ReadTest(unittest.TestCase):
    def read(self, kind, *lines):
        return tuple(told(command) for command in read_script(kind, lines))

    def test_every_form(self):
        gate = ("bits", "gate", ("x", "y"), ("z",), ((("x", 0), ("z", 1)), (("y", 1), ("z", 0))))
        for lines, command in (
            (GATE, ("put", gate)), (("edit", *GATE), ("edit", gate)), (("release", *GATE), ("release", gate)),
            (("exchange port", *GATE), ("exchange", "port", gate)), (("take gate",), ("take", "gate")),
            (("flatten gate",), ("flatten", "gate")), (("hide gate x",), ("hide", "gate", "x")),
            (("unhide gate z",), ("unhide", "gate", "z")), (("unhide gate a.b",), ("unhide", "gate", "a.b")),
            (("say gate -a b",), ("say", "gate", (("a", 0), ("b", 1)))), (("say gate 0",), ("say", "gate", ())),
            (("say gate a.b",), ("say", "gate", (("a.b", 1),))), (("unsay gate 0",), ("unsay", "gate", 0)),
            (("unsay gate -12",), ("unsay", "gate", -12)), ((f"unsay g {LONG}",), ("unsay", "g", LONG)),
            (("undo",), ("undo",)), (("redo",), ("redo",)), (("ask works",), ("ask", "works")),
            (("ask solution",), ("ask", "solution")), (("ask report",), ("ask", "report")),
            (("ask parts",), ("ask", "parts")), (("ask shadow gate",), ("ask", "shadow", "gate")),
            (("ask why -a b",), ("ask", "why", (("a", 0), ("b", 1)))), (("ask why 0",), ("ask", "why", ())),
            (("take take",), ("take", "take")), (("say say say",), ("say", "say", (("say", 1),))),
            (("ask shadow why",), ("ask", "shadow", "why")), (("ask why why",), ("ask", "why", (("why", 1),))),
        ):
            self.assertEqual(self.read(BITS, *lines), (command,), lines)
            self.assertEqual(format_script(BITS, read_script(BITS, lines)), lines)
            self.assertEqual(self.read(BITS, "undo", *lines, *lines, "redo"), (("undo",), command, command, ("redo",)))

    def test_every_kind(self):
        for kind, text, constraint in (
            (STEPS, "0 - b <= -3", ("", "b", -3)), (LINES, "2 x + -3 y <= 4", ((("x", 2), ("y", -3)), "<=", 4)),
            (WHOLES, "2 x = 1 mod 5", ((("x", 2),), 5, 1)), (ROWS, "a b : 00 12", (("a", "b"), ((0, 0), (1, 2)))),
            (ROWS, ":", ((), ())), (WORDS, "x : !0,. 1,1", (("x",), ((0, -1), (1, 1)), (1, 0))),
        ):
            self.assertEqual(read_script(kind, [f"say p {text}"]), (("say", "p", constraint),))
            self.assertEqual(read_script(kind, (f"ask why {text}",)), (("ask", "why", constraint),))
            for other in KINDS:
                if other is not kind:
                    with self.assertRaises(InvalidText):
                        read_script(other, [f"say p {text}"])

    def test_no_lines(self):
        for kind in KINDS:
            self.assertEqual(read_script(kind, []), ())
            self.assertEqual(read_script(kind, (), first=7), ())
            self.assertEqual(format_script(kind, []), ())

    def test_there_and_back(self):
        for kind in KINDS:
            commands = list(made_commands(kind, 151, 120))
            kept = copy.deepcopy([told(command) for command in commands])
            lines = format_script(kind, commands)
            self.assertIs(lines.__class__, tuple)
            self.assertTrue(all(line.__class__ is str for line in lines))
            found = read_script(kind, lines)
            self.assertIs(found.__class__, tuple)
            self.assertEqual([told(command) for command in found], kept)
            self.assertEqual(format_script(kind, found), lines)
            self.assertEqual(format_script(kind, tuple(commands[:1])), format_script(kind, commands[:1]))
            self.assertEqual([told(command) for command in commands], kept)
            given = list(lines)
            read_script(kind, given)
            self.assertEqual(given, list(lines))

    def test_written_parts(self):
        for kind in KINDS:
            left, wire, right = chain(kind).parts
            lines = format_script(kind, [("put", left), ("edit", wire), ("exchange", "x", right), ("release", left)])
            wanted = (*format_part(left), "edit", *format_part(wire), "exchange x", *format_part(right), "release")
            self.assertEqual(lines, (*wanted, *format_part(left)))
            constraint = kind.contradiction()
            text = format_constraint(kind.WORD, constraint)
            self.assertEqual(format_script(kind, [("say", "p", constraint)]), (f"say p {text}",))


class BadTest(unittest.TestCase):
    def bad(self, number, lines, kind=BITS):
        """The line with the number is the first bad one, also with other lines before it and numbers from elsewhere."""
        other = f"part p {kind.WORD}", "show", "hide a.b", "end"
        for before in ((), ("undo",), (*other, "ask works")):
            for first in (1, 8, -3):
                for some in ((*before, *lines), [*before, *lines]):
                    with self.assertRaises(InvalidText, msg=lines) as caught:
                        read_script(kind, some, first=first)
                    self.assertEqual(caught.exception.line, number + len(before) + first - 1, lines)
        with self.assertRaises(InvalidText) as caught:
            read_script(kind, lines)
        self.assertEqual(caught.exception.line, number)

    def test_lines_of_one_command(self):
        for line in (
            "", " ", "x", "put", "put gate", "end", "show", "show x", "Undo", "undo ", " undo", "undo 1", "undo gate",
            "redo x", "redo  ", "take", "take ", "take Gate", "take a.b", "take a b", "take  a", "take a ", "flatten",
            "flatten 1a", "flatten a b", "flatten ninechars", "hide", "hide a", "hide a b.c", "hide a.b c", "hide a b c",
            "hide a  b", "hide a B", "unhide", "unhide a", "unhide a b.", "unhide a.b c", "unhide a b c", "unhide A b",
            "unhide a .b", "say", "say a", "say a ", "say a.b 0", "say a 0 ", "say a  0", "say A 0", "say a b a", "say a b b",
            "say a B", "say a -", "say  0", "unsay", "unsay a", "unsay a x", "unsay a 01", "unsay a -0", "unsay a +1",
            "unsay a 1 2", "unsay a.b 1", "unsay a ", "unsay A 1", "ask", "ask ", "ask  works", "ask Works", "ask works ",
            "ask work", "ask solution x", "ask shadow", "ask shadow ", "ask shadow A", "ask shadow a.b", "ask shadow a b",
            "ask why", "ask why ", "ask why  0", "ask why b a", "ask why 0 ", "ask ask works", "ask name", "ask a", "works",
            "why 0", "shadow a", "exchange", "exchange ", "exchange A", "exchange a.b", "exchange a b", "edit x", "edit ",
            "release x", "release ", "ask undo", "say 0", "name a", "number 1", "take\ta", "ask whyx", "sayx a 0", "askworks",
        ):
            self.bad(1, (line,))
            self.bad(1, (line, *GATE))
            self.bad(2, ("redo", line, "x"))

    def test_lines_of_parts(self):
        for head in ((), ("edit",), ("release",), ("exchange a",)):
            many = len(head)
            for at in range(1, len(GATE)):
                self.bad(many + at + 1, (*head, *GATE[:at]))
                self.bad(many + at + 1, (*head, *GATE[:at], "undo"))
                self.bad(many + at + 1, (*head, *GATE[:at], " " + GATE[at], *GATE[at + 1:]))
            for at, line in (
                (1, "show y x"), (1, "show x.y"), (2, "hide x"), (2, "hide Z"), (3, "say q"), (3, "say"), (3, "End"),
                (4, "take a"), (4, "say z x"), (5, "end "),
            ):
                self.bad(many + at + 1, (*head, *GATE[:at], line, *GATE[at + 1:]))
        for line in ("part", "part gate", "part gate rows", "part Gate bits", "part gate bits ", "part  gate bits", "part a.b bits"):
            self.bad(1, (line, *GATE[1:]))
            self.bad(2, ("edit", line, *GATE[1:]))

    def test_missing_lines(self):
        for head in ("edit", "release", "exchange a"):
            self.bad(2, (head,))
            self.bad(2, (head, "undo"))
            self.bad(2, (head, head, *GATE))

    def test_the_first_bad_line(self):
        self.bad(2, ("undo", "x", "y"))
        self.bad(4, ("take a", "ask why a", "say b -c d", "hide", "part"))
        self.bad(len(GATE) + 1, (*GATE, "end"))
        self.bad(len(GATE) + 1, (*GATE, "say a x", "say x", "z")[:len(GATE)] + ("say x", "z"))

    def test_every_kind(self):
        for kind in KINDS:
            for text in ("", "?", "a b c d e f : g", "1 2 3", "x - ", "= 0", "A"):
                self.bad(1, (f"say p {text}",), kind)
                self.bad(1, (f"ask why {text}",), kind)
            wrong = "rows" if kind is not ROWS else "bits"
            self.bad(1, (f"part p {wrong}", "show", "hide", "end"), kind)


if __name__ == "__main__":
    unittest.main()
