"""Points 10 and 33: the written form of machines."""

import unittest

from shadowlinks.machinetexts import format_machine, parse_machine
from tests.texts import check_bad, check_forms, check_tuples

BAD = (
    "", " ", ":", ": ", "x :", "x", "x 0,0", " : 0", ": 0 ", ":  0", ": 0  0", "x : 0", "x : 0,0,0", ": 0,0", ": 1",
    ": -1", ": +0", ": 00", ": -0", ": 0 2", ": 0 1 3", "x : 0,2 1,1", "x : 0,1", "x : 0,. 1", "x : 0,. 1,1,1",
    "x : ,0", "x : 0,", "x : ,", "x : 0 ,0", "x : 0, 0", "x : !", ": !", ": !!0", ": 0!", ": ! 0", "x : 0,!0", ": ..",
    "x : ..", "y x : 0,0,0,0", "x x : 0,0,0,0", "X : 0,0", "x y : 0,0", "x y : 0,0,0", "x y : 0,0,0,0,0",
    "x : : 0,0", ": 0 :", "x: 0,0", "x :0,0", "x : 0;0", "x : a,b", "x : 01,1 0,0", "1 : 0,0", "x. : 0,0", ": -",
    "x : 0,-1", "x  : 0,0", " x : 0,0", "x : 0,0 ",
)


class MachineTextsTest(unittest.TestCase):
    def test_examples(self):
        for machine, text in (
            ((("x",), ((0, -1), (1, 1)), (1, 0)), "x : !0,. 1,1"), (((), ((-1,),), (0,)), ": ."),
            (((), ((0,),), (1,)), ": !0"), (((), ((1,), (0,)), (1, 0)), ": !1 0"),
            ((("x", "y"), ((0, -1, -1, 0),), (1,)), "x y : !0,.,.,0"), (((), ((1,), (-1,)), (0, 1)), ": 1 !."),
        ):
            self.assertEqual(format_machine(machine), text)
            self.assertEqual(parse_machine(text), machine)

    def test_forms(self):
        check_forms(self, "words", parse_machine, format_machine)

    def test_bad_texts(self):
        check_bad(self, parse_machine, BAD)

    def test_the_number_of_moves(self):
        for names, columns in (("", 1), ("x", 2), ("x y", 4), ("x y z", 8)):
            for many in range(1, 18):
                text = f"{names} : ".lstrip() + ",".join(["0"] * many)
                if many == columns:
                    self.assertEqual(len(parse_machine(text)[1][0]), columns)
                else:
                    check_bad(self, parse_machine, [text])

    def test_tuples(self):
        check_tuples(self, parse_machine("x : !0,. 1,1"))


if __name__ == "__main__":
    unittest.main()
