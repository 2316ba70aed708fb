"""Points 37 and 42: the lines of certificates of the kind bits."""

import unittest

from shadowlinks.cuts import derive_lines
from tests.texts import check_tuples

A, B, C = ("a", 1), ("b", 1), ("c", 1)
NOT_A, NOT_B, NOT_C = ("a", 0), ("b", 0), ("c", 0)
CLAUSES = ((A, B), (NOT_A, B), (NOT_B,), (NOT_A, NOT_B), (A, C))


class DeriveTest(unittest.TestCase):
    def test_the_example(self):
        clauses = ((A, B), (NOT_A, B))
        lines = (("given", 0), ("given", 1), ("cut", 0, 1, "a"))
        self.assertEqual(derive_lines(clauses, lines), (*clauses, (B,)))
        self.assertEqual(derive_lines(list(clauses), lines), (*clauses, (B,)))

    def test_no_lines(self):
        self.assertEqual(derive_lines(CLAUSES, ()), ())
        self.assertEqual(derive_lines((), ()), ())

    def test_given(self):
        for index, clause in enumerate(CLAUSES):
            self.assertEqual(derive_lines(CLAUSES, (("given", index),)), (clause,))
        self.assertEqual(derive_lines(CLAUSES, (("given", 2), ("given", 2))), ((NOT_B,), (NOT_B,)))
        self.assertEqual(derive_lines([()], (("given", 0),)), ((),))

    def test_given_that_is_not_there(self):
        for index in (-1, -5, 5, 99):
            self.assertIsNone(derive_lines(CLAUSES, (("given", index),)))
            self.assertIsNone(derive_lines(CLAUSES, (("given", 0), ("given", index))))
            self.assertIsNone(derive_lines(CLAUSES, (("given", index), ("given", 0))))
        self.assertIsNone(derive_lines((), (("given", 0),)))

    def test_cuts_of_cuts(self):
        lines = (
            ("given", 0), ("given", 1), ("cut", 0, 1, "a"), ("given", 2), ("cut", 2, 3, "b"), ("given", 4),
        )
        self.assertEqual(derive_lines(CLAUSES, lines), ((A, B), (NOT_A, B), (B,), (NOT_B,), (), (A, C)))

    def test_the_order_of_a_cut(self):
        lines = (("given", 0), ("given", 1))
        self.assertIsNone(derive_lines(CLAUSES, (*lines, ("cut", 1, 0, "a"))))
        self.assertEqual(derive_lines(CLAUSES, (*lines[::-1], ("cut", 1, 0, "a")))[-1], (B,))

    def test_cuts_about_a_name_without_both_signs(self):
        lines = (("given", 0), ("given", 1))
        for name in ("b", "c", "", "A", "a b"):
            self.assertIsNone(derive_lines(CLAUSES, (*lines, ("cut", 0, 1, name))))
        self.assertIsNone(derive_lines(CLAUSES, (*lines, ("cut", 0, 0, "a"))))
        self.assertIsNone(derive_lines(CLAUSES, (*lines, ("cut", 1, 1, "a"))))

    def test_cuts_without_a_resolvent(self):
        lines = (("given", 0), ("given", 3))
        for name in ("a", "b"):
            self.assertIsNone(derive_lines(CLAUSES, (*lines, ("cut", 0, 1, name))))

    def test_only_lines_before_count(self):
        lines = (("given", 0), ("given", 1))
        for i, j in ((-2, 1), (0, -1), (-2, -1), (2, 1), (0, 2), (0, 3), (5, 1), (2, 2)):
            self.assertIsNone(derive_lines(CLAUSES, (*lines, ("cut", i, j, "a"))), (i, j))
            self.assertIsNone(derive_lines(CLAUSES, (*lines, ("cut", i, j, "a"), ("given", 1))), (i, j))
        self.assertIsNone(derive_lines(CLAUSES, (("cut", 1, 2, "a"), *lines)))
        # The numbers of a cut are those of lines, not those of clauses.
        self.assertIsNone(derive_lines(CLAUSES, (("given", 4), ("given", 2), ("cut", 0, 1, "a"))))

    def test_arguments_stay_and_results_are_tuples(self):
        clauses = [(A, B), (NOT_A, B)]
        lines = (("given", 0), ("given", 1), ("cut", 0, 1, "a"))
        check_tuples(self, derive_lines(clauses, lines))
        self.assertEqual(clauses, [(A, B), (NOT_A, B)])


if __name__ == "__main__":
    unittest.main()
