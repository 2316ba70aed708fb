"""Points 6 and 29: the written form of steps."""

import unittest

from shadowlinks.steptexts import format_step, parse_step
from tests.texts import check_bad, check_forms, check_tuples

BAD = (
    "", "0", "a - b <= ", "a - b <=", "a - b", "a - b <= 3 ", " a - b <= 3", "a  - b <= 3", "a - b <=  3",
    "a - a <= 0", "a - b <= +3", "a - b <= 03", "a - b <= -0", "a - b <= x", "a - b = 3", "a - b < 3", "a + b <= 3",
    "a -b <= 3", "-a - b <= 3", "A - b <= 3", "a - 1 <= 3", "00 - b <= 3", " - b <= 3", "- b <= 3", "a -  <= 3",
    "a - b <= 3 4", "a - b <= 3 mod 2", "a. - b <= 3", "a - .b <= 3", "a - abcdefghi <= 3", "a - b <= 1/2",
)


class StepTextsTest(unittest.TestCase):
    def test_examples(self):
        for constraint, text in (
            (("", "b", -3), "0 - b <= -3"), (("a", "b", 7), "a - b <= 7"), (("p.x", "", 0), "p.x - 0 <= 0"),
            (("", "", -1), "0 - 0 <= -1"), (("", "", 4), "0 - 0 <= 4"),
        ):
            self.assertEqual(format_step(constraint), text)
            self.assertEqual(parse_step(text), constraint)

    def test_forms(self):
        check_forms(self, "steps", parse_step, format_step)

    def test_bad_texts(self):
        check_bad(self, parse_step, BAD)

    def test_tuples(self):
        check_tuples(self, parse_step("a - b <= 3"))


if __name__ == "__main__":
    unittest.main()
