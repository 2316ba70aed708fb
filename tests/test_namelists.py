"""Point 2: lists of names in texts."""

import unittest

from shadowlinks.errors import InvalidText
from shadowlinks.namelists import parse_columns, parse_names

BAD = (
    [""], ["a", ""], ["", "a"], ["b", "a"], ["a", "a"], ["a", "b", "a"], ["A"], ["1"], ["a", "b."], ["a", ".b"],
    ["a..b"], ["a b"], ["-a"], ["abcdefghi"], ["a_b"],
)


class ParseNamesTest(unittest.TestCase):
    def test_names(self):
        self.assertEqual(parse_names([]), ())
        self.assertEqual(parse_names(()), ())
        self.assertEqual(parse_names(["a"]), ("a",))
        self.assertEqual(parse_names(("a", "a.b", "a1", "b"), line=4), ("a", "a.b", "a1", "b"))

    def test_bad_names(self):
        for words in BAD:
            with self.assertRaises(InvalidText, msg=words) as caught:
                parse_names(words, line=5)
            self.assertEqual(caught.exception.line, 5)

    def test_the_default_line_is_one(self):
        with self.assertRaises(InvalidText) as caught:
            parse_names(["b", "a"])
        self.assertEqual(caught.exception.line, 1)

    def test_words_stay_as_they_were(self):
        words = ["a", "b"]
        self.assertIsInstance(parse_names(words), tuple)
        self.assertEqual(words, ["a", "b"])

    def test_names_before_a_colon(self):
        self.assertEqual(parse_columns("a b : 0 : 1"), (("a", "b"), ("0", ":", "1")))
        self.assertEqual(parse_columns(":"), ((), ()))
        for text in ("", "a b", "b a : 0", "a: 0", " : 0"):
            with self.assertRaises(InvalidText) as caught:
                parse_columns(text, line=6)
            self.assertEqual(caught.exception.line, 6)
        with self.assertRaises(InvalidText) as caught:
            parse_columns("b a : 0")
        self.assertEqual(caught.exception.line, 1)


if __name__ == "__main__":
    unittest.main()
