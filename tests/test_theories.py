"""Points 11 and 12: joining, widening and restricting."""

import unittest

from shadowlinks.theories import join, restrict, widen

FIRST = (("a", "c"), ((("a", 1),), (("c", 0),)))
SECOND = (("a", "b"), ((("b", 1),), (("a", 1),)))


class TheoriesTest(unittest.TestCase):
    def test_join_of_none(self):
        self.assertEqual(join([]), ((), ()))
        self.assertEqual(join(()), ((), ()))

    def test_join_of_one(self):
        self.assertEqual(join([FIRST]), FIRST)

    def test_join_keeps_the_order_of_constraints_and_doubles(self):
        wanted = (("a", "b", "c"), ((("b", 1),), (("a", 1),), (("a", 1),), (("c", 0),)))
        self.assertEqual(join((SECOND, FIRST)), wanted)
        self.assertEqual(join([FIRST, FIRST])[1], FIRST[1] + FIRST[1])

    def test_join_has_names_without_constraints(self):
        self.assertEqual(join([(("z",), ()), (("b.x",), ())]), (("b.x", "z"), ()))

    def test_join_changes_nothing(self):
        theories = [SECOND, FIRST]
        result = join(theories)
        self.assertEqual(theories, [SECOND, FIRST])
        self.assertIsInstance(result, tuple)
        self.assertIsInstance(result[0], tuple)
        self.assertIsInstance(result[1], tuple)

    def test_widen(self):
        self.assertEqual(widen(FIRST), FIRST)
        self.assertEqual(widen(FIRST, "b"), (("a", "b", "c"), FIRST[1]))
        self.assertEqual(widen(FIRST, "z", "a", "b", "z"), (("a", "b", "c", "z"), FIRST[1]))
        self.assertEqual(widen(((), ()), "p.x"), (("p.x",), ()))

    def test_restrict(self):
        assignment = {"a": 1, "b": 2, "c": 3}
        self.assertEqual(restrict(assignment, ["c", "a"]), {"a": 1, "c": 3})
        self.assertEqual(restrict(assignment, ()), {})
        self.assertEqual(assignment, {"a": 1, "b": 2, "c": 3})

    def test_restrict_keeps_the_ground(self):
        assignment = {"": 2, "x": "ab", "y": "ba"}
        self.assertEqual(restrict(assignment, ("y",)), {"": 2, "y": "ba"})
        self.assertEqual(restrict(assignment, []), {"": 2})
        self.assertEqual(restrict({"": 0}, []), {"": 0})

    def test_restrict_returns_a_new_dict(self):
        for assignment in ({"a": 1}, {"": 1, "a": "b"}, {}):
            names = [name for name in assignment if name]
            result = restrict(assignment, names)
            self.assertEqual(result, assignment)
            self.assertIsNot(result, assignment)


if __name__ == "__main__":
    unittest.main()
