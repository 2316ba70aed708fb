"""Points 3, 4 and 25: the base class of the kinds."""

import inspect
import unittest

from shadowlinks.kinds import Kind

METHODS = {
    "names_in": ["constraint"],
    "is_valid": ["names", "constraint"],
    "holds": ["constraint", "assignment"],
    "contradiction": [],
    "rename": ["theory", "table"],
    "eliminate": ["theory", "name"],
    "lift": ["theory", "name", "assignment"],
    "ground": ["theory"],
    "normal": ["theory"],
    "certificate": ["theory", "constraint"],
    "accepts": ["theory", "constraint", "certificate"],
    "counterexample": ["theory", "constraint"],
    "pin": ["names", "assignment"],
}


class Pairs(Kind):
    """A kind whose constraints are tuples of pairs that begin with a name."""

    WORD = "pairs"

    def names_in(self, constraint):
        return tuple(name for name, _ in constraint)


class KindTest(unittest.TestCase):
    def test_word(self):
        self.assertEqual(Kind.WORD, "none")
        self.assertEqual(Kind().WORD, "none")
        self.assertEqual(Pairs().WORD, "pairs")

    def test_the_base_mentions_no_names(self):
        self.assertEqual(Kind().names_in((("a", 1),)), ())
        self.assertIs(Kind().is_valid((), (("a", 1),)), True)

    def test_validity_asks_for_the_names_of_the_kind(self):
        kind = Pairs()
        self.assertIs(kind.is_valid(("a", "b"), (("b", 1), ("a", 0))), True)
        self.assertIs(kind.is_valid((), ()), True)
        self.assertIs(kind.is_valid(("a",), (("a", 1), ("b", 1))), False)
        self.assertIs(kind.is_valid((), (("a", 1),)), False)

    def test_methods_and_their_arguments(self):
        for name, arguments in METHODS.items():
            parameters = list(inspect.signature(getattr(Kind, name)).parameters)
            self.assertEqual(parameters, ["self", *arguments], name)

    def test_the_base_leaves_the_other_methods_to_the_kinds(self):
        for name, arguments in METHODS.items():
            if name not in ("names_in", "is_valid"):
                with self.assertRaises(NotImplementedError):
                    getattr(Kind(), name)(*arguments)


if __name__ == "__main__":
    unittest.main()
