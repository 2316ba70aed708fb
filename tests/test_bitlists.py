"""Points 2, 5, 11, 23, 24 and 91: the solutions of theories of the kind bits."""

import copy
import inspect
import random
import unittest
from itertools import islice
from time import perf_counter

from shadowlinks.bitlists import each_solution
from tests.bitcases import A, B, NOT_A, NOT_B, NOT_C, THEORIES, made_clause, made_theories, solutions


class EachSolutionTest(unittest.TestCase):
    def test_ordinary(self):
        theory = (("a", "b", "c"), ((A, B), (NOT_A, NOT_B), (NOT_C,)))
        self.assertEqual(list(each_solution(theory)), [{"a": 0, "b": 1, "c": 0}, {"a": 1, "b": 0, "c": 0}])

    def test_all_solutions_in_ascending_order(self):
        for theory in (*THEORIES, *made_theories(21, 60, 5)):
            self.assertEqual(list(each_solution(theory)), solutions(theory))

    def test_the_least_name_decides_first(self):
        names = ("a", "a.b", "a1", "b")
        found = [tuple(one[name] for name in names) for one in each_solution((names, ()))]
        self.assertEqual(len(found), 16)
        self.assertEqual(found, sorted(found))

    def test_edges(self):
        self.assertEqual(list(each_solution(((), ()))), [{}])
        self.assertEqual(list(each_solution(((), ((),)))), [])
        self.assertEqual(list(each_solution((("a",), ((),)))), [])
        self.assertEqual(list(each_solution((("a",), ((A,), (NOT_A,))))), [])
        self.assertEqual(list(each_solution((("a",), ()))), [{"a": 0}, {"a": 1}])

    def test_a_generator_of_new_dicts(self):
        self.assertTrue(inspect.isgeneratorfunction(each_solution))
        for theory in (((), ()), (("a", "b"), ())):
            kept = copy.deepcopy(theory)
            for one in each_solution(theory):
                one["z"] = 5
            self.assertEqual(list(each_solution(theory)), solutions(kept))
            self.assertEqual(theory, kept)

    def test_it_does_not_wait_for_the_last_solution(self):
        names = tuple(f"a{at}" for at in range(10, 60))
        self.assertEqual(len(list(islice(each_solution((names, ())), 3))), 3)

    def test_quick(self):
        maker = random.Random(4)
        start = perf_counter()
        for size in (1, 2, 3, 5):
            theory = (tuple("abcde"), tuple(made_clause(maker, tuple("abcde"), size) for _ in range(8)))
            list(each_solution(theory))
        names = tuple("abcdefghijk")
        list(each_solution((names, tuple(made_clause(maker, names, 3) for _ in range(32)))))
        self.assertEqual(len(list(each_solution((names, ())))), 2048)
        self.assertLess(perf_counter() - start, 2)


if __name__ == "__main__":
    unittest.main()
