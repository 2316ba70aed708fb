"""Points 7, 8, 30 and 31: the written form of lines and wholes."""

import unittest

from shadowlinks.sumtexts import format_linear, format_modular, parse_linear, parse_modular
from tests.texts import check_bad, check_forms, check_tuples

SUMS = ("0", "1 x", "-1 x", "2 x + -3 y", "9 a + 1 b + 7 p.q")
BAD_SUMS = (
    "", " ", "0 x", "x", "1x", "+ 1 x", "1 x +", "1 x + ", "1 x 2 y", "1 x - 2 y", "1 x + y", "1 x + 0 y", "-0 x",
    "+1 x", "01 x", "2 y + 1 x", "1 x + 1 x", "1 X", "1 ", " 1 x", "1  x", "1 x  + 1 y", "1 x + + 1 y", "0 + 1 x",
    "1 x + 0", "x 1", "1 x + 1 1", "1 x.", "1/2 x", "00", "1", "1 x y", "- x", "1 x + 1 y + 1 a",
)


class LinearTextsTest(unittest.TestCase):
    def test_examples(self):
        for constraint, text in (
            (((("x", 2), ("y", -3)), "<=", 4), "2 x + -3 y <= 4"), (((), "=", 0), "0 = 0"),
            (((), "<=", -1), "0 <= -1"), (((("x", 1),), "=", -7), "1 x = -7"),
        ):
            self.assertEqual(format_linear(constraint), text)
            self.assertEqual(parse_linear(text), constraint)

    def test_forms(self):
        check_forms(self, "lines", parse_linear, format_linear)
        for text in SUMS:
            for end in (" <= 0", " = -12"):
                self.assertEqual(format_linear(parse_linear(text + end)), text + end)

    def test_bad_sums(self):
        check_bad(self, parse_linear, [text + end for text in BAD_SUMS for end in (" <= 4", " = 0")])

    def test_bad_ends(self):
        ends = (
            "", " ", " <=", " <= ", " <= +4", " <= 04", " <= -0", " <= x", " < 4", " >= 4", " == 4", " =< 4", " <=4",
            "<= 4", " <= 4 ", " <=  4", "  <= 4", " <= 4 5", " 4", " <= = 4", " = 4 = 4", " = 1 mod 5", " mod 4",
        )
        check_bad(self, parse_linear, [text + end for text in SUMS for end in ends])
        check_bad(self, parse_linear, ["", "4", "<= 4", "= 4", "1 x", "0", "<=", "  "])

    def test_tuples(self):
        check_tuples(self, parse_linear("2 x + -3 y <= 4"))


class ModularTextsTest(unittest.TestCase):
    def test_examples(self):
        for constraint, text in (
            (((("x", 2),), 5, 1), "2 x = 1 mod 5"), (((), 0, 1), "0 = 1"), (((), 3, 1), "0 = 1 mod 3"),
            (((("x", 1), ("y", -1)), 0, -4), "1 x + -1 y = -4"), (((("x", 1),), 1, 9), "1 x = 9 mod 1"),
        ):
            self.assertEqual(format_modular(constraint), text)
            self.assertEqual(parse_modular(text), constraint)

    def test_forms(self):
        check_forms(self, "wholes", parse_modular, format_modular)
        for text in SUMS:
            for end in (" = 0", " = -12 mod 1", " = 99 mod 12"):
                self.assertEqual(format_modular(parse_modular(text + end)), text + end)

    def test_a_name_may_be_mod(self):
        self.assertEqual(parse_modular("2 mod = 1"), ((("mod", 2),), 0, 1))
        self.assertEqual(parse_modular("2 mod = 1 mod 3"), ((("mod", 2),), 3, 1))

    def test_bad_sums(self):
        check_bad(self, parse_modular, [text + end for text in BAD_SUMS for end in (" = 4", " = 0 mod 3")])

    def test_bad_ends(self):
        ends = (
            "", " ", " =", " = ", " = +4", " = 04", " = -0", " = x", " <= 4", " == 4", " =4", "= 4", " = 4 ", " =  4",
            "  = 4", " = 4 5", " = 4 = 4", " = 1 mod", " = 1 mod ", " = 1 mod 0", " = 1 mod -5", " = 1 mod +5",
            " = 1 mod 05", " = 1 mod -0", " = 1 mod x", " = 1 mod 5 ", " = 1  mod 5", " = 1 mod  5", " = 1 mod 5 6",
            " = 1 mod 5 mod 5", " = mod 5", " mod 5", " mod 5 = 1", " = 1 Mod 5", " = 1mod 5", " = 1 mod5", " = 1 5",
        )
        check_bad(self, parse_modular, [text + end for text in SUMS for end in ends])
        check_bad(self, parse_modular, ["", "4", "= 4", "mod 4", "1 mod 4", "= 1 mod 4", "0", "mod", "  "])

    def test_tuples(self):
        check_tuples(self, parse_modular("2 x + -3 y = 1 mod 4"))


if __name__ == "__main__":
    unittest.main()
