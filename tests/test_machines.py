"""Points 10 and 83: columns and reading."""

import copy
import random
import unittest

from shadowlinks.machines import column_numbers, run
from tests.texts import check_tuples
from tests.wordcases import ANY, DIFFERENT, NONE, REPEATED, all_assignments, made_machine, read


class ColumnsTest(unittest.TestCase):
    def test_examples(self):
        values = {"": 3, "x": "aba", "y": "bbb", "z": "baa"}
        self.assertEqual(column_numbers(("x",), values), (0, 1, 0))
        self.assertEqual(column_numbers(("y",), values), (1, 1, 1))
        self.assertEqual(column_numbers(("x", "y"), values), (1, 3, 1))
        self.assertEqual(column_numbers(("x", "z"), values), (1, 2, 0))
        self.assertEqual(column_numbers(("x", "y", "z"), values), (3, 6, 2))
        self.assertEqual(column_numbers((), values), (0, 0, 0))

    def test_the_empty_word(self):
        self.assertEqual(column_numbers((), {"": 0}), ())
        self.assertEqual(column_numbers(("x", "y"), {"": 0, "x": "", "y": ""}), ())

    def test_arguments_stay_and_results_are_tuples(self):
        values = {"": 2, "x": "ab"}
        check_tuples(self, column_numbers(("x",), values))
        self.assertEqual(values, {"": 2, "x": "ab"})


class RunTest(unittest.TestCase):
    def test_examples(self):
        for numbers, state in (
            ((), 0), ((0,), 1), ((1,), -1), ((0, 1), 0), ((0, 0), -1), ((0, 1, 0), 1), ((1, 0), -1), ((1, 0, 1, 0), -1),
            ((0, 0, 1, 1), -1),
        ):
            self.assertEqual(run(REPEATED, numbers), state)
            self.assertEqual(run(REPEATED, list(numbers)), state)
        self.assertEqual(run(DIFFERENT, (0, 3, 0)), 0)
        self.assertEqual(run(DIFFERENT, (0, 2, 0)), 1)
        self.assertEqual(run(DIFFERENT, (1,)), 1)

    def test_without_names(self):
        self.assertEqual(run(ANY, ()), 0)
        self.assertEqual(run(ANY, (0, 0, 0)), 0)
        self.assertEqual(run(NONE, ()), 0)
        self.assertEqual(run(NONE, (0,)), -1)

    def test_after_a_failure_nothing_is_read(self):
        # The last state would lead to state 0 again.
        machine = (("x",), ((-1, 1), (0, 0)), (1, 1))
        self.assertEqual(run(machine, (0, 0)), -1)
        self.assertEqual(run(machine, (1, 0)), 0)

    def test_all(self):
        maker = random.Random(3)
        for _ in range(40):
            machine = made_machine(maker, ("x", "y"))
            for length in range(4):
                for values in all_assignments(("x", "y"), length):
                    self.assertEqual(run(machine, column_numbers(machine[0], values)), read(machine, values))

    def test_arguments_stay(self):
        machine, numbers = copy.deepcopy(REPEATED), [0, 1]
        run(machine, numbers)
        self.assertEqual((machine, numbers), (REPEATED, [0, 1]))


if __name__ == "__main__":
    unittest.main()
