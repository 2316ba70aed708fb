"""Points 21, 26, 27 and 35: the written form of parts."""

import unittest

from shadowlinks.errors import InvalidText
from shadowlinks.kinds import Kind
from shadowlinks.parts import Part
from shadowlinks.parttexts import each_part, format_part, parse_part, parse_parts
from tests.smallkinds import Tables
from tests.texts import CONSTRAINTS, check_tuples, neighbours

KIND = Tables()
TABLE = (("a", "x"), ((0, 1), (2, 2)))
GATE = Part("rows", "gate", ["b", "a"], ["y.z", "x"], [TABLE, ((), ()), (("y.z",), ())])
GATE_LINES = ("part gate rows", "show a b", "hide x y.z", "say a x : 01 22", "say :", "say y.z :", "end")
BARE_LINES = ("part bare rows", "show", "hide", "end")


class Clauses(Kind):
    WORD = "bits"

    def names_in(self, constraint):
        return tuple(name for name, _ in constraint)


class Steps(Kind):
    WORD = "steps"

    def names_in(self, constraint):
        return tuple(name for name in constraint[:2] if name)


class Sums(Kind):
    WORD = "lines"

    def names_in(self, constraint):
        return tuple(name for name, _ in constraint[0])


class Wholes(Sums):
    WORD = "wholes"


class Columns(Kind):
    WORD = "rows"

    def names_in(self, constraint):
        return constraint[0]


class Machines(Columns):
    WORD = "words"


KINDS = (Clauses(), Steps(), Sums(), Wholes(), Columns(), Machines())


def picture(part):
    return part.word, part.name, part.shown, part.hidden, part.constraints


def pictures(parts):
    return [picture(part) for part in parts]


class FormatTest(unittest.TestCase):
    def test_lines(self):
        self.assertEqual(format_part(GATE), GATE_LINES)
        self.assertEqual(format_part(Part.bare("rows", "bare")), BARE_LINES)
        part = Part("bits", "p", ["b", "a"], [], [(), (("a", 0), ("b", 1))])
        self.assertEqual(format_part(part), ("part p bits", "show a b", "hide", "say 0", "say -a b", "end"))
        part = Part("wholes", "p", [], ["q.x"], [((("q.x", 1),), 3, -1)])
        self.assertEqual(format_part(part), ("part p wholes", "show", "hide q.x", "say 1 q.x = -1 mod 3", "end"))

    def test_tuples(self):
        check_tuples(self, format_part(GATE))
        self.assertEqual(format_part(GATE), GATE_LINES)


class ParseTest(unittest.TestCase):
    def fails(self, lines, number, *, first=1, kind=KIND):
        for copied in (list(lines), tuple(lines)):
            with self.assertRaises(InvalidText, msg=lines) as caught:
                parse_part(kind, copied, first=first)
            self.assertEqual(caught.exception.line, number, lines)

    def test_parts(self):
        self.assertEqual(picture(parse_part(KIND, GATE_LINES)), picture(GATE))
        self.assertEqual(picture(parse_part(KIND, list(GATE_LINES), first=30)), picture(GATE))
        self.assertEqual(picture(parse_part(KIND, BARE_LINES)), picture(Part.bare("rows", "bare")))
        self.assertIsInstance(parse_part(KIND, BARE_LINES), Part)

    def test_every_kind(self):
        hidden = ("a.b", "gate.x1", "p.q.x", "p.x", "y.z")
        shown = ("a", "b", "c", "mod", "q", "x", "y", "z9")
        for kind in KINDS:
            part = Part(kind.WORD, "p", shown, hidden, CONSTRAINTS[kind.WORD])
            lines = format_part(part)
            self.assertEqual(picture(parse_part(kind, lines)), picture(part))
            self.assertEqual(pictures(parse_parts(kind, lines + lines)), pictures([part, part]))
            for other in KINDS:
                if other is not kind:
                    self.fails(lines, 1, kind=other)

    def test_bad_first_lines(self):
        for line in (
            "", "part", "part gate", "part gate rows ", " part gate rows", "part  gate rows", "part gate  rows",
            "part gate bits", "part gate none", "part Gate rows", "part gate.x rows", "part  rows", "part gaterows",
            "Part gate rows", "part gate rows rows", "part 1 rows", "part abcdefghi rows", "gate part rows", "end",
            "show a b", "put gate rows",
        ):
            self.fails((line, *GATE_LINES[1:]), 1)
            self.fails((line, *GATE_LINES[1:]), 12, first=12)
            self.fails((line,), 1)

    def test_bad_second_lines(self):
        for line in (
            "", "show ", "show b a", "show a a", "show a  b", "show a b ", " show a b", "show a.b", "show a y.z",
            "show A", "show 1", "showa b", "hide x y.z", "Show a b", "show a, b", "end", "show a b abcdefghi", "say :",
            "show -",
        ):
            self.fails((GATE_LINES[0], line, *GATE_LINES[2:]), 2)
            self.fails((GATE_LINES[0], line), 8, first=7)

    def test_bad_third_lines(self):
        for line in (
            "", "hide ", "hide y.z x", "hide x x", "hide x  y.z", "hide x y.z ", " hide x y.z", "hide a x y.z",
            "hide b", "hide X", "hide x.", "hide .x", "hide x..y", "hidex", "show x", "Hide x", "end", "say :", "hide 1",
        ):
            self.fails((*GATE_LINES[:2], line, *GATE_LINES[3:]), 3)
            self.fails((*GATE_LINES[:2], line), 102, first=100)

    def test_bad_further_lines(self):
        for line in (
            "", "say", "say ", "say  :", "say a x : 01 22 ", " say :", "say: ", "Say :", "say a x : 22 01",
            "say x a : 01", "say a z : 01", "say z :", "say a : 3", "say a -b", "say 0", "end ", " end", "End", "endend",
            "part gate rows", "show a b", "hide", "say say :", "say y : 0", "say a x : 0",
        ):
            for place in (3, 4, 5):
                self.fails((*GATE_LINES[:place], line, *GATE_LINES[place:]), place + 1)
                self.fails((*GATE_LINES[:place], line, "end"), place + 21, first=21)

    def test_the_kind_decides_about_validity(self):
        class Strict(Tables):
            def is_valid(self, names, constraint):
                return constraint != ((), ()) and super().is_valid(names, constraint)

        self.fails(GATE_LINES, 5, kind=Strict())

    def test_missing_lines(self):
        for many in range(len(GATE_LINES)):
            self.fails(GATE_LINES[:many], many + 1)
            self.fails(GATE_LINES[:many], many + 50, first=50)
        self.fails((), 1)
        self.fails((), 0, first=0)

    def test_the_first_bad_line_counts(self):
        self.fails(("part gate bits", "show b a", "hide a", "say", "x"), 1)
        self.fails(("part gate rows", "show b a", "hide a", "say", "x"), 2)
        self.fails(("part gate rows", "show a b", "hide a", "say", "x"), 3)
        self.fails(("part gate rows", "show a b", "hide c", "say", "x"), 4)
        self.fails(("part gate rows", "show a b", "hide c", "say :", "x"), 5)

    def test_lines_after_the_end(self):
        for line in ("", "end", "part gate rows", "say :"):
            self.fails((*GATE_LINES, line), 8)
            self.fails((*BARE_LINES, line), 11, first=7)
        self.fails(GATE_LINES + BARE_LINES, 8)

    def test_whatever_is_read_has_these_lines(self):
        for at, line in enumerate(GATE_LINES):
            for other in neighbours(line, 1):
                lines = (*GATE_LINES[:at], other, *GATE_LINES[at + 1:])
                try:
                    part = parse_part(KIND, lines)
                except InvalidText:
                    continue
                self.assertEqual(format_part(part), lines)

    def test_lines_stay_as_they_were(self):
        lines = list(GATE_LINES)
        parse_part(KIND, lines)
        parse_parts(KIND, lines)
        self.assertEqual(lines, list(GATE_LINES))


class SeveralTest(unittest.TestCase):
    def test_several_parts(self):
        parts = parse_parts(KIND, GATE_LINES + BARE_LINES + GATE_LINES)
        self.assertIsInstance(parts, tuple)
        self.assertEqual(pictures(parts), pictures([GATE, Part.bare("rows", "bare"), GATE]))
        self.assertEqual(pictures(each_part(KIND, list(GATE_LINES * 2))), pictures([GATE, GATE]))

    def test_no_parts(self):
        self.assertEqual(parse_parts(KIND, ()), ())
        self.assertEqual(parse_parts(KIND, [], first=9), ())
        self.assertEqual(list(each_part(KIND, [])), [])

    def fails(self, lines, number, *, first=1):
        with self.assertRaises(InvalidText) as caught:
            parse_parts(KIND, lines, first=first)
        self.assertEqual(caught.exception.line, number)

    def test_numbers_go_on(self):
        self.fails((*GATE_LINES, "end"), 8)
        self.fails((*GATE_LINES, ""), 8)
        self.fails((*GATE_LINES, "part p bits", *BARE_LINES[1:]), 8)
        self.fails((*GATE_LINES, "part p rows"), 9)
        self.fails((*BARE_LINES, *GATE_LINES[:-1]), 11)
        self.fails((*BARE_LINES, *BARE_LINES, "part p rows", "show b a"), 10)
        self.fails((*BARE_LINES, *BARE_LINES, "part p rows", "show b a"), 29, first=20)
        self.fails((*BARE_LINES, "part p rows", "show", "hide", "say a :", "end"), 7, first=0)

    def test_parts_before_the_bad_one_are_yielded(self):
        lines = (*GATE_LINES, *BARE_LINES, "part p rows", "show", "hide", "say 0", "end")
        found = []
        with self.assertRaises(InvalidText) as caught:
            for part in each_part(KIND, lines, first=101):
                found.append(part)
        self.assertEqual(caught.exception.line, 115)
        self.assertEqual(pictures(found), pictures([GATE, Part.bare("rows", "bare")]))

    def test_reading_begins_with_the_loop(self):
        parts = each_part(KIND, ["bad"])
        with self.assertRaises(InvalidText) as caught:
            next(parts)
        self.assertEqual(caught.exception.line, 1)

    def test_kind_and_lines_are_passed_by_position(self):
        for read in (parse_part, parse_parts):
            with self.assertRaises(TypeError):
                read(kind=KIND, lines=BARE_LINES)


if __name__ == "__main__":
    unittest.main()
