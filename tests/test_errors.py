"""Points 19 and 23: the errors."""

import unittest

from shadowlinks import errors

WITH_NAME = ("InvalidName", "InvalidPart", "InvalidLink", "InvalidTree", "UnknownPart")
PLAIN = ("InvalidTheory", "NoSolution", "NothingToUndo")
ALL = (*WITH_NAME, *PLAIN, "InvalidConstraint", "InvalidText", "Incompatible")


class ErrorsTest(unittest.TestCase):
    def test_all_derive_directly_from_shadow_error(self):
        self.assertEqual(errors.ShadowError.__bases__, (ValueError,))
        for name in ALL:
            self.assertEqual(getattr(errors, name).__bases__, (errors.ShadowError,), name)

    def test_each_class_is_defined_in_the_file(self):
        for name in ("ShadowError", *ALL):
            self.assertEqual(getattr(errors, name).__module__, "shadowlinks.errors")

    def test_errors_with_a_name(self):
        for name in WITH_NAME:
            for text in ("", "Gate", "a.b"):
                self.assertEqual(getattr(errors, name)(text).name, text)

    def test_other_attributes(self):
        self.assertEqual(errors.InvalidConstraint(3).index, 3)
        self.assertEqual(errors.InvalidText(7).line, 7)
        theory = (("a",), ())
        self.assertEqual(errors.Incompatible(theory).surrounding, theory)

    def test_plain_errors_take_a_message(self):
        for name in PLAIN:
            with self.assertRaises(errors.ShadowError):
                raise getattr(errors, name)("why")


if __name__ == "__main__":
    unittest.main()
