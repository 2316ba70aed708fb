"""Points 21 and 22: parts."""

import unittest

from shadowlinks.errors import InvalidName, InvalidPart
from shadowlinks.parts import Part

CLAUSES = ((("b", 1),), (("a", 0), ("x", 1)))


def gate():
    return Part("bits", "gate", ["b", "a"], ["y.z", "x"], CLAUSES)


def picture(part):
    return part.word, part.name, part.shown, part.hidden, part.constraints


class CreateTest(unittest.TestCase):
    def test_attributes(self):
        self.assertEqual(picture(gate()), ("bits", "gate", ("a", "b"), ("x", "y.z"), CLAUSES))

    def test_lists_become_tuples_and_are_copied(self):
        shown, hidden, constraints = ["b", "a"], ["d", "c"], [(("a", 1),)]
        part = Part("bits", "p", shown, hidden, constraints)
        self.assertEqual((shown, hidden, constraints), (["b", "a"], ["d", "c"], [(("a", 1),)]))
        shown.append("z")
        hidden.clear()
        constraints.append(())
        self.assertEqual(picture(part), ("bits", "p", ("a", "b"), ("c", "d"), ((("a", 1),),)))

    def test_tuples(self):
        self.assertEqual(picture(Part("rows", "p", (), (), ())), ("rows", "p", (), (), ()))

    def test_word_and_constraints_are_not_checked(self):
        part = Part("no word", "p", ["a"], [], [(("z", 1),), ("x", "", 1)])
        self.assertEqual(part.word, "no word")
        self.assertEqual(part.constraints, ((("z", 1),), ("x", "", 1)))

    def test_bare(self):
        self.assertEqual(picture(Part.bare("steps", "p")), ("steps", "p", (), (), ()))
        self.assertEqual(len(Part.bare("steps", "p")), 0)
        for name in ("", "a.b", "P"):
            with self.assertRaises(InvalidName) as caught:
                Part.bare("steps", name)
            self.assertEqual(caught.exception.name, name)

    def fails_with_name(self, name, shown, hidden, wrong):
        with self.assertRaises(InvalidName) as caught:
            Part("bits", name, shown, hidden, ())
        self.assertEqual(caught.exception.name, wrong)

    def test_invalid_names(self):
        for name in ("", "a.b", "1", "A", "abcdefghi", "a b", "a_b", "-a"):
            self.fails_with_name(name, [], [], name)
            self.fails_with_name("p", ["a", name, "b"], [], name)
        for name in ("", "a.", ".a", "a..b", "1", "a.1", "A", "a.abcdefghi", "a b", "a_b", "-a"):
            self.fails_with_name("p", [], ["a", name, "b"], name)

    def test_the_first_invalid_name_counts(self):
        self.fails_with_name("P", ["S"], ["H"], "P")
        self.fails_with_name("p", ["S"], ["H"], "S")
        self.fails_with_name("p", ["s"], ["H"], "H")
        self.fails_with_name("p", ["z", "Z", "A"], ["H"], "Z")
        self.fails_with_name("p", ["s"], ["z", "Z", "A"], "Z")
        self.fails_with_name("p", ["a.b"], ["c.d"], "a.b")

    def fails_with_part(self, shown, hidden, wrong):
        with self.assertRaises(InvalidPart) as caught:
            Part("bits", "p", shown, hidden, ())
        self.assertEqual(caught.exception.name, wrong)

    def test_names_that_occur_twice(self):
        self.fails_with_part(["a", "b", "a"], [], "a")
        self.fails_with_part([], ["a.b", "a.b"], "a.b")
        self.fails_with_part(["a", "b"], ["c", "b"], "b")
        self.fails_with_part(["a", "a", "a"], [], "a")

    def test_the_least_double_name_counts(self):
        self.fails_with_part(["z", "z", "a", "a"], [], "a")
        self.fails_with_part(["z", "z"], ["a", "a"], "a")
        self.fails_with_part(["d", "c", "b"], ["b", "c", "a"], "b")

    def test_invalid_names_come_before_double_ones(self):
        self.fails_with_name("p", ["a", "a", "B"], [], "B")
        self.fails_with_name("p", ["a", "a"], ["a", "a."], "a.")
        self.fails_with_name("P", ["a", "a"], [], "P")

    def test_the_name_of_the_part_may_be_one_of_its_names(self):
        self.assertEqual(Part("bits", "a", ["a"], [], ()).names, ("a",))


class UseTest(unittest.TestCase):
    def test_names_and_theory(self):
        self.assertEqual(gate().names, ("a", "b", "x", "y.z"))
        self.assertEqual(gate().theory, (("a", "b", "x", "y.z"), CLAUSES))
        self.assertEqual(Part("bits", "p", ["z"], ["a"], []).theory, (("a", "z"), ()))
        self.assertEqual(Part.bare("bits", "p").theory, ((), ()))

    def test_length_loop_and_membership(self):
        part = gate()
        self.assertEqual(len(part), 2)
        self.assertEqual([clause for clause in part], list(CLAUSES))
        self.assertEqual(tuple(part), CLAUSES)
        self.assertIs("a" in part, True)
        self.assertIs("x" in part, False)
        self.assertIs("c" in part, False)
        self.assertIs("" in part, False)

    def test_hiding(self):
        part = gate()
        self.assertEqual(picture(part - "a"), ("bits", "gate", ("b",), ("a", "x", "y.z"), CLAUSES))
        self.assertEqual(picture(part - "a" - "b"), ("bits", "gate", (), ("a", "b", "x", "y.z"), CLAUSES))
        self.assertEqual(picture(part), picture(gate()))

    def test_hiding_a_name_that_is_not_shown(self):
        for name in ("x", "y.z", "c", "", "A"):
            with self.assertRaises(InvalidPart) as caught:
                gate() - name
            self.assertEqual(caught.exception.name, name)

    def test_revealing(self):
        part = gate()
        self.assertEqual(picture(part.reveal("x")), ("bits", "gate", ("a", "b", "x"), ("y.z",), CLAUSES))
        self.assertEqual(picture(part), picture(gate()))
        self.assertEqual(picture((part - "a").reveal("a")), picture(part))

    def test_revealing_what_is_not_hidden_or_not_plain(self):
        for name in ("y.z", "a", "c", "", "X"):
            with self.assertRaises(InvalidPart) as caught:
                gate().reveal(name)
            self.assertEqual(caught.exception.name, name)

    def test_other_constraints(self):
        part = gate()
        constraints = [(("a", 1),)]
        other = part.with_constraints(constraints)
        constraints.append(())
        self.assertEqual(picture(other), ("bits", "gate", ("a", "b"), ("x", "y.z"), ((("a", 1),),)))
        self.assertEqual(part.with_constraints(()).constraints, ())
        self.assertEqual(picture(part), picture(gate()))

    def test_another_name(self):
        part = gate()
        self.assertEqual(picture(part.called("door")), ("bits", "door", ("a", "b"), ("x", "y.z"), CLAUSES))
        self.assertEqual(picture(part), picture(gate()))
        for name in ("", "a.b", "Door", "1", "abcdefghi"):
            with self.assertRaises(InvalidName) as caught:
                part.called(name)
            self.assertEqual(caught.exception.name, name)

    def test_errors_change_nothing(self):
        part = gate()
        for change in (lambda: part - "x", lambda: part.reveal("y.z"), lambda: part.called("X")):
            with self.assertRaises(ValueError):
                change()
        self.assertEqual(picture(part), picture(gate()))

    def test_everything_is_a_tuple(self):
        for part in (gate(), gate() - "a", gate().reveal("x"), gate().called("p"), gate().with_constraints([])):
            for value in (part.shown, part.hidden, part.constraints, part.names, part.theory):
                self.assertIs(value.__class__, tuple)


if __name__ == "__main__":
    unittest.main()
