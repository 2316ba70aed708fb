"""Point 27: integers in texts, and numbered lines."""

import unittest

from shadowlinks.digits import is_number, number_lines, parse_number
from shadowlinks.errors import InvalidText

LONG = "123456789012345678901234567890123456789012345678901234567890"
NUMBERS = ("0", "1", "-1", "9", "10", "-10", "100", "-99", "1000000", LONG, "-" + LONG, LONG + LONG)
NO_NUMBERS = (
    "", "-", "--1", "-0", "+0", "+1", "00", "01", "-01", "1-", "1 ", " 1", "- 1", "1.0", "1_000", "0x1", "a",
    "1a", "1,000", "-00", "0-", "1e3", "/", ":", "1:",
)


class DigitsTest(unittest.TestCase):
    def test_numbers(self):
        for text in NUMBERS:
            self.assertIs(is_number(text), True, text)
            self.assertEqual(parse_number(text), int(text))
            self.assertEqual(str(parse_number(text)), text)

    def test_no_numbers(self):
        for text in NO_NUMBERS:
            self.assertIs(is_number(text), False, text)
            with self.assertRaises(InvalidText) as caught:
                parse_number(text, line=12)
            self.assertEqual(caught.exception.line, 12)

    def test_the_default_line_is_one(self):
        with self.assertRaises(InvalidText) as caught:
            parse_number("x")
        self.assertEqual(caught.exception.line, 1)

    def test_small_integers(self):
        for number in range(-120, 121):
            self.assertEqual(parse_number(str(number), line=3), number)

    def test_numbered_lines(self):
        self.assertEqual(number_lines(["a", "b"], first=9), (" 9: a", "10: b"))
        self.assertEqual(number_lines(("a", "b")), ("1: a", "2: b"))
        self.assertEqual(number_lines(["", "x y"], first=0), ("0: ", "1: x y"))

    def test_no_lines(self):
        for first in (0, 1, 10, 1000):
            self.assertEqual(number_lines([], first=first), ())
        self.assertEqual(number_lines(()), ())

    def test_unlike_lengths(self):
        lines = number_lines(["x"] * 103, first=8)
        self.assertEqual(lines[:3], ("  8: x", "  9: x", " 10: x"))
        self.assertEqual(lines[-12:-9], (" 99: x", "100: x", "101: x"))
        self.assertEqual(lines[-1], "110: x")
        self.assertEqual({line.index(":") for line in lines}, {3})

    def test_the_last_number_gives_the_width(self):
        self.assertEqual(number_lines(["x"] * 9)[-1], "9: x")
        self.assertEqual(number_lines(["x"] * 10)[0], " 1: x")
        self.assertEqual(number_lines(["x"] * 10, first=0)[0], "0: x")
        self.assertEqual(number_lines(["{x}"], first=99999), ("99999: {x}",))

    def test_lines_stay_as_they_were(self):
        lines = ["b", "a"]
        number_lines(lines)
        self.assertEqual(lines, ["b", "a"])


if __name__ == "__main__":
    unittest.main()
