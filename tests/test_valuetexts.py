"""Points 3, 12 and 34: the written form of values and assignments."""

import unittest

from shadowlinks.errors import InvalidText
from shadowlinks.valuetexts import format_assignment, format_value, parse_assignment, parse_value
from tests.texts import LONG, check_bad, neighbours

VALUES = {
    "bits": ((0, "0"), (1, "1")),
    "steps": ((0, "0"), (-7, "-7"), (12, "12"), (LONG, str(LONG)), (-LONG, str(-LONG))),
    "wholes": ((0, "0"), (-1, "-1"), (99, "99"), (-LONG, str(-LONG))),
    "rows": ((0, "0"), (1, "1"), (2, "2")),
    "lines": (
        ((0, 1), "0"), ((-3, 1), "-3"), ((-1, 2), "-1/2"), ((7, 3), "7/3"), ((1, LONG), f"1/{LONG}"),
        ((-LONG, 17), f"-{LONG}/17"),
    ),
    "words": (("", ""), ("a", "a"), ("b", "b"), ("abba", "abba"), ("bbbbbbbb", "bbbbbbbb")),
}
NO_INTEGERS = ("", "-", "+1", "01", "-0", "1/1", "1/2", "1.0", "a", "x", " 1", "1 ", "1 2", "--1", "00")
BAD_VALUES = {
    "bits": (*NO_INTEGERS, "2", "-1", "10"),
    "steps": NO_INTEGERS,
    "wholes": NO_INTEGERS,
    "rows": (*NO_INTEGERS, "3", "-1", "12"),
    "lines": (
        "", "-", "/", "1/", "/2", "1/1", "-1/1", "1/0", "0/1", "0/2", "0/0", "2/4", "-2/4", "6/3", "1/-2", "-1/-2",
        "+1/2", "1/+2", "01/2", "1/02", "1/2/3", "1 /2", "1/ 2", " 1/2", "1/2 ", "-0", "-0/2", "a", "1.5", "1//2", "+1",
    ),
    "words": ("c", "A", "aB", "a b", " ", "a ", " a", "1", "0", "ab1", "a,b", "-", "a.b", "=a"),
}
ASSIGNMENTS = {
    "bits": (({}, ""), ({"a": 1}, "a=1"), ({"b": 0, "a": 1, "p.x": 1}, "a=1 b=0 p.x=1")),
    "steps": (({}, ""), ({"y": -3, "x": 4}, "x=4 y=-3"), ({"z": LONG}, f"z={LONG}")),
    "wholes": (({}, ""), ({"a.b": -3, "a": 0}, "a=0 a.b=-3")),
    "rows": (({}, ""), ({"b": 2, "a": 0}, "a=0 b=2")),
    "lines": (({}, ""), ({"y": (-1, 2), "x": (3, 1)}, "x=3 y=-1/2"), ({"a": (0, 1)}, "a=0")),
    "words": (
        ({"": 0}, "=0"), ({"": 12}, "=12"), ({"": 3, "x": "aba", "y": "bbb"}, "=3 x=aba y=bbb"),
        ({"y": "", "": 0, "x": ""}, "=0 x= y="), ({"x": "b", "": 1}, "=1 x=b"),
    ),
}
BAD_NAMED = (
    " ", "a", "a=", "=", "=1", "a=1 ", " a=1", "a=1  b=1", "b=1 a=1", "a=1 a=1", "a=1 a=0", "A=1", "1=1", "a.=1",
    "a =1", "a= 1", "a==1", "a=1=1", "a=1,b=1", "a=1 b", "a=1 =1", "=1 a=1", "=0", "a=+1", "a=01", "a=-0", "a=x",
    "abcdefghi=1", "a..b=1", "-a=1", "a=1 b=",
)
BAD_ASSIGNMENTS = {
    "bits": (*BAD_NAMED, "a=2", "a=-1", "a=1/2"),
    "steps": (*BAD_NAMED, "a=1/2", "a=aba"),
    "wholes": (*BAD_NAMED, "a=1/2", "a=aba"),
    "rows": (*BAD_NAMED, "a=3", "a=-1"),
    "lines": (*BAD_NAMED, "a=2/4", "a=3/1", "a=1/0", "a=1/-2", "a=0/5"),
    "words": (
        "", " ", "=", "= ", "=-1", "=-1 x=", "=+1", "=01", "=-0", "=a", "=0 ", " =0", "=0  x=", "x=", "x=a", "x=a =1",
        "=1 =1", "=1 x=a =1", "1", "=1 x=", "=1 x=aa", "=2 x=aa y=a", "=1 x=c", "=1 x=A", "=1 y=a x=a", "=1 x=a x=a",
        "=1 x=a x=b", "=1 X=a", "=1 1=a", "=0 x", "=1 x", "=1 a", "=1 x=a=", "=2 x=a=", "=1  x=a", "=1 x=a ", "==1",
        "=0 x= ", "=0 =", "=1/2", "=1 x.=a", "=1 x=1",
    ),
}


class ValueTextsTest(unittest.TestCase):
    def test_values(self):
        for word, pairs in VALUES.items():
            for value, text in pairs:
                self.assertEqual(format_value(word, value), text)
                self.assertEqual(parse_value(word, text), value)
                self.assertEqual(parse_value(word, text, line=3), value)

    def test_bad_values(self):
        for word, texts in BAD_VALUES.items():
            check_bad(self, lambda text, line=1: parse_value(word, text, line=line), texts)

    def test_whatever_is_read_has_this_written_form(self):
        for word, pairs in VALUES.items():
            for _, text in pairs[:4]:
                for other in neighbours(text, 3):
                    try:
                        value = parse_value(word, other)
                    except InvalidText:
                        continue
                    self.assertEqual(format_value(word, value), other)


class AssignmentTextsTest(unittest.TestCase):
    def test_assignments(self):
        for word, pairs in ASSIGNMENTS.items():
            for assignment, text in pairs:
                before = list(assignment.items())
                self.assertEqual(format_assignment(word, assignment), text)
                self.assertEqual(list(assignment.items()), before)
                self.assertEqual(parse_assignment(word, text), assignment)
                self.assertEqual(parse_assignment(word, text, line=3), assignment)

    def test_bad_assignments(self):
        for word, texts in BAD_ASSIGNMENTS.items():
            check_bad(self, lambda text, line=1: parse_assignment(word, text, line=line), texts)

    def test_whatever_is_read_has_this_written_form(self):
        for word, pairs in ASSIGNMENTS.items():
            for _, text in pairs:
                for other in neighbours(text, 3):
                    try:
                        assignment = parse_assignment(word, other)
                    except InvalidText:
                        continue
                    self.assertEqual(format_assignment(word, assignment), other)

    def test_the_ground_belongs_to_words_alone(self):
        for word in ("bits", "steps", "lines", "wholes", "rows"):
            for text in ("=0", "=1", "=1 a=1"):
                with self.assertRaises(InvalidText):
                    parse_assignment(word, text)
            self.assertEqual(parse_assignment(word, ""), {})

    def test_results_are_new(self):
        first = parse_assignment("bits", "")
        first["a"] = 1
        self.assertEqual(parse_assignment("bits", ""), {})


if __name__ == "__main__":
    unittest.main()
