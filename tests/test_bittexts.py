"""Points 5 and 28: the written form of clauses."""

import unittest

from shadowlinks.bittexts import format_clause, parse_clause
from tests.texts import check_bad, check_forms, check_tuples

BAD = (
    "", " ", "a ", " a", "a  b", "b a", "a a", "a -a", "-a a", "-0", "0 a", "a 0", "0 0", "+a", "--a", "-", "- a",
    "A", "1", "a.", ".a", "a..b", "a.1", "abcdefghi", "a_b", "a,b", "b a c", "a -", "a b a",
)


class ClauseTextsTest(unittest.TestCase):
    def test_examples(self):
        for clause, text in (
            ((("a", 1), ("b", 0)), "a -b"), ((), "0"), ((("a", 0),), "-a"), ((("a", 0), ("p.x", 1)), "-a p.x"),
        ):
            self.assertEqual(format_clause(clause), text)
            self.assertEqual(parse_clause(text), clause)

    def test_forms(self):
        check_forms(self, "bits", parse_clause, format_clause)

    def test_bad_texts(self):
        check_bad(self, parse_clause, BAD)

    def test_tuples(self):
        check_tuples(self, parse_clause("a -b"))


if __name__ == "__main__":
    unittest.main()
