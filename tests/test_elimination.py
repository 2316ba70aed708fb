"""Points 14, 16 and 23: eliminating several names."""

import copy
import unittest
from itertools import permutations

from shadowlinks.bits import Bits
from shadowlinks.elimination import without_names
from shadowlinks.lines import Lines
from shadowlinks.rows import Rows
from shadowlinks.steps import Steps
from shadowlinks.wholes import Wholes
from shadowlinks.words import Words
from tests import linecases, stepcases, wholecases, wordcases
from tests.kindchecks import subsets
from tests.smallkinds import Tables

CLAUSES = ((("a", 1), ("b", 1)), (("b", 0), ("c", 1)), (("c", 0), ("d", 0)))
EQUAL = ((0, 0), (1, 1), (2, 2))
LESS = ((0, 1), (0, 2), (1, 2))
TABLES = ((("a", "b"), EQUAL), (("b", "c"), LESS), (("c", "d"), LESS))
CASES = (
    (Bits(), ((("a", "b", "c", "d"), CLAUSES),)),
    (Rows(), ((("a", "b", "c", "d"), TABLES),)),
    (Tables(), ((("a", "b", "c", "d"), TABLES),)),
    (Steps(), stepcases.THEORIES),
    (Lines(), linecases.THEORIES),
    (Wholes(), wholecases.THEORIES),
    (Words(), wordcases.THEORIES),
)


class WithoutTest(unittest.TestCase):
    def test_no_names(self):
        for kind, theories in CASES:
            for theory in theories:
                self.assertEqual(without_names(kind, theory, []), theory)

    def test_the_same_as_one_after_another(self):
        for kind, theories in CASES:
            for theory in theories:
                for names in subsets(theory[0]):
                    found = without_names(kind, theory, names)
                    self.assertEqual(found[0], tuple(name for name in theory[0] if name not in names))
                    for order in permutations(names):
                        left = theory
                        for name in order:
                            left = kind.eliminate(left, name)
                        self.assertEqual(kind.normal(found), kind.normal(left), (theory, order))

    def test_names_that_no_constraint_mentions(self):
        for kind, theories in CASES:
            for names, constraints in theories:
                wider = (tuple(sorted((*names, "q", "zz"))), constraints)
                self.assertEqual(kind.normal(without_names(kind, wider, ("zz", "q"))), kind.normal((names, constraints)))

    def test_arguments_stay(self):
        for kind, theories in CASES:
            for theory in theories:
                kept = copy.deepcopy(theory)
                hidden = list(theory[0])
                without_names(kind, theory, hidden)
                self.assertEqual((theory, hidden), (kept, list(kept[0])))

    def test_names_with_few_neighbours_come_first(self):
        seen = []

        class Watched(Rows):
            def eliminate(self, theory, name):
                seen.append(name)
                return super().eliminate(theory, name)

        full = tuple((a, b, c) for a in (0, 1) for b in (0, 1) for c in (0, 1))
        theory = (("a", "b", "c", "d", "e"), ((("a", "b", "c"), full), (("c", "d"), LESS), (("d", "e"), LESS)))
        without_names(Watched(), theory, ("a", "c", "d", "e"))
        self.assertEqual(seen, ["e", "d", "a", "c"])


if __name__ == "__main__":
    unittest.main()
