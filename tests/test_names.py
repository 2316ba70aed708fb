"""Point 2: names and their order."""

import unittest

from shadowlinks.names import are_full_names, is_ascending, is_full_name, is_name, merge_names

PLAIN = ("a", "z", "x1", "gate", "a0000000", "abcdefgh", "z9z9")
NOT_PLAIN = (
    "", "abcdefghi", "1", "1a", "0abc", "A", "aB", "Gate", "a_b", "_a", "a b", " a", "a ", "-a", "a-b",
    "a-", "a.b", ".", "a.", ".a", "~", "a~", "a{", "a`", "`a", "{", "a/", "a:", "a@", "a[",
)
FULL = ("a", "gate.x1", "a.b.c", "p.q.x", "abcdefgh.abcdefgh", "a1.b2.c3.d4.e5")
NOT_FULL = (
    "", ".", "..", "a.", ".a", "a..b", ".a.b", "a.b.", "a.1", "1.a", "a.B", "A.b", "a.abcdefghi",
    "abcdefghi.a", "a.b_c", "a .b", "a. b", "a.-b", "a.b.1c",
)


class NamesTest(unittest.TestCase):
    def test_plain_names(self):
        for text in PLAIN:
            self.assertIs(is_name(text), True, text)

    def test_no_plain_names(self):
        for text in NOT_PLAIN:
            self.assertIs(is_name(text), False, text)

    def test_plain_names_by_length(self):
        lengths = [length for length in range(12) if is_name("a" * length)]
        self.assertEqual(lengths, [1, 2, 3, 4, 5, 6, 7, 8])

    def test_every_character(self):
        letters = "abcdefghijklmnopqrstuvwxyz"
        for code in range(32, 127):
            self.assertEqual(is_name(chr(code)), chr(code) in letters)
            self.assertEqual(is_name("a" + chr(code)), chr(code) in letters + "0123456789")

    def test_full_names(self):
        for text in PLAIN + FULL:
            self.assertIs(is_full_name(text), True, text)

    def test_no_full_names(self):
        for text in NOT_FULL:
            self.assertIs(is_full_name(text), False, text)

    def test_merge_names(self):
        self.assertEqual(merge_names(), ())
        self.assertEqual(merge_names(()), ())
        self.assertEqual(merge_names([], ()), ())
        self.assertEqual(merge_names(["b", "a"]), ("a", "b"))
        self.assertEqual(merge_names(("b", "a"), ["a", "c"], ("b",)), ("a", "b", "c"))
        self.assertEqual(merge_names(["a", "a"]), ("a",))

    def test_names_are_ordered_like_strings(self):
        self.assertEqual(
            merge_names(["b", "a.b", "a1", "a", "a10", "a2", "ab"]), ("a", "a.b", "a1", "a10", "a2", "ab", "b")
        )

    def test_merging_changes_nothing(self):
        names = ["b", "a", "b"]
        merge_names(names, names)
        self.assertEqual(names, ["b", "a", "b"])

    def test_ascending(self):
        for values in ((), ("a",), ["a", "b"], ((0, 1), (1, 0)), ((),)):
            self.assertIs(is_ascending(values), True)
        for values in (("a", "a"), ["b", "a"], ((1, 0), (0, 1)), ((), ()), ("a", "c", "b")):
            self.assertIs(is_ascending(values), False)

    def test_lists_of_full_names(self):
        self.assertIs(are_full_names(()), True)
        self.assertIs(are_full_names(["a", "a.b", "b"]), True)
        for names in (("b", "a"), ("a", "a"), ("a", "1"), ("",), ("a.",)):
            self.assertIs(are_full_names(names), False)


if __name__ == "__main__":
    unittest.main()
