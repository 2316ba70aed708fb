"""Points 26 to 33: written forms by the word of the kind."""

import unittest

from shadowlinks.errors import InvalidText
from shadowlinks.notation import format_constraint, parse_constraint
from tests.texts import CONSTRAINTS, check_bad, check_forms

EXAMPLES = (
    ("bits", (("a", 1), ("b", 0)), "a -b"),
    ("steps", ("", "b", -3), "0 - b <= -3"),
    ("lines", ((("x", 2), ("y", -3)), "<=", 4), "2 x + -3 y <= 4"),
    ("lines", ((), "=", 0), "0 = 0"),
    ("wholes", ((("x", 2),), 5, 1), "2 x = 1 mod 5"),
    ("wholes", ((), 0, 1), "0 = 1"),
    ("rows", (("a", "b"), ((0, 0), (1, 2))), "a b : 00 12"),
    ("rows", ((), ()), ":"),
    ("rows", ((), ((),)), ": -"),
    ("words", (("x",), ((0, -1), (1, 1)), (1, 0)), "x : !0,. 1,1"),
)


class NotationTest(unittest.TestCase):
    def test_examples(self):
        for word, constraint, text in EXAMPLES:
            self.assertEqual(format_constraint(word, constraint), text)
            self.assertEqual(parse_constraint(word, text, line=4), constraint)

    def test_forms(self):
        for word in CONSTRAINTS:
            check_forms(
                self, word, lambda text, line=1: parse_constraint(word, text, line=line),
                lambda constraint: format_constraint(word, constraint),
            )

    def test_texts_of_other_kinds(self):
        for word, _, text in EXAMPLES:
            for other in CONSTRAINTS:
                # An equation without a modulus is a written form both in lines and in wholes.
                if other != word and not ({word, other} == {"lines", "wholes"} and text in ("0 = 0", "0 = 1")):
                    with self.assertRaises(InvalidText, msg=(other, text)):
                        parse_constraint(other, text)

    def test_another_word_has_no_written_forms(self):
        for text in ("a", ":", ": 0", "0 = 0"):
            with self.assertRaises(InvalidText) as caught:
                parse_constraint("none", text, line=8)
            self.assertEqual(caught.exception.line, 8)

    def test_bad_texts_of_every_kind(self):
        for word in CONSTRAINTS:
            check_bad(
                self, lambda text, line=1: parse_constraint(word, text, line=line),
                ["", " ", "x y z ?", "A", "a  b", " a", "a ", "?"],
            )


if __name__ == "__main__":
    unittest.main()
