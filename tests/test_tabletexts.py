"""Points 9 and 32: the written form of tables."""

import unittest

from shadowlinks.tabletexts import format_table, parse_table
from tests.texts import check_bad, check_forms, check_tuples

BAD = (
    "", " ", ": ", " :", "a", "a b", "00", "-", ": 0", ": - -", ": 00", "a : -", "a : 00", "a b : 0", "a b : 00 1",
    "a b : 00 12 ", " a b : 00", "a  b : 00", "a b  : 00", "a b :  00", "a b : 00  12", "a b :00", "a b: 00",
    "b a : 00", "a a : 00", "A : 0", "1 : 0", "a. : 0", "a : 1 0", "a : 1 1", "a b : 12 00", "a b : 00 00",
    "a : 3", "a : x", "a : -1", "a : +1", "a b : 0 0", "a b : 0,0", "a : : 0", ": :", "a : 0 :", "a b : 03",
    "a : .", ": --", ": 0 -", "a b : 00 -", "abcdefghi : 0",
)


class TableTextsTest(unittest.TestCase):
    def test_examples(self):
        for table, text in (
            ((("a", "b"), ((0, 0), (1, 2))), "a b : 00 12"), (((), ()), ":"), (((), ((),)), ": -"),
            ((("a",), ()), "a :"), ((("p.x",), ((0,), (2,))), "p.x : 0 2"),
        ):
            self.assertEqual(format_table(table), text)
            self.assertEqual(parse_table(text), table)

    def test_forms(self):
        check_forms(self, "rows", parse_table, format_table)

    def test_bad_texts(self):
        check_bad(self, parse_table, BAD)

    def test_tuples(self):
        check_tuples(self, parse_table("a b : 00 12"))


if __name__ == "__main__":
    unittest.main()
