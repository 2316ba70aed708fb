"""Points 18 and 19 in the kind words: first solutions, completions and first words, without eliminating names."""

import copy
import random
import unittest
from time import perf_counter

from shadowlinks.shadows import satisfies
from shadowlinks.theories import restrict
from shadowlinks.wordpaths import can_be_completed, completed_words, first_word, first_words
from shadowlinks.words import Words
from tests.wordcases import (
    ANY, DIFFERENT, EVEN_GROUND, NONE, REPEATED, THEORIES, UNDER, longest, made_machine, made_theories, solutions_of,
)

KIND = Words()
MORE = (*THEORIES, *made_theories(8, 40, 3))


def theories_of_many_names(seed, count):
    """Theories of five to seven names, whose machines read one to three of them."""
    maker = random.Random(seed)
    for number in range(count):
        names = tuple("tuvwxyz"[:5 + number % 3])
        machines = []
        for _ in range(maker.randrange(1, 7)):
            own = tuple(sorted(maker.sample(names, maker.randrange(1, 4))))
            states = range(maker.randrange(1, 4))
            moves = tuple(tuple(maker.choice((*states, *states, -1)) for _ in range(2 ** len(own))) for _ in states)
            machines.append((own, moves, tuple(maker.randrange(2) for _ in states)))
        yield names, tuple(machines)


class FirstTest(unittest.TestCase):
    def test_examples(self):
        theory = (("x", "y"), (REPEATED, UNDER))
        self.assertEqual(first_words(theory, theory[0]), {"": 0, "x": "", "y": ""})
        self.assertEqual(first_words((("x", "y"), (*theory[1], DIFFERENT)), ("x", "y")), {"": 2, "x": "ab", "y": "bb"})
        self.assertEqual(first_words(((), ()), ()), {"": 0})
        self.assertEqual(first_words(((), (EVEN_GROUND, ((), ((1,), (1,)), (0, 1)))), ()), {"": 2})
        self.assertIsNone(first_words(((), (NONE,)), ()))
        self.assertIsNone(first_words((("x",), (REPEATED, NONE)), ("x",)))
        self.assertIsNone(first_words((("x",), (REPEATED, ((), ((1,), (0,)), (0, 1)))), ("x",)))

    def test_the_first_of_all_solutions(self):
        for theory in (*MORE, *theories_of_many_names(1, 30)):
            found = first_words(theory, theory[0])
            for length in range(min(longest(theory), 1 if len(theory[0]) > 3 else 9) + 1):
                all_of_them = solutions_of(theory, length)
                if all_of_them or found is not None and found[""] == length:
                    self.assertEqual(found, all_of_them[0], theory)
                    break
            self.assertEqual(found is None, KIND.counterexample(theory, NONE) is None)
            self.assertTrue(found is None or satisfies(KIND, theory, found))


class CompletedTest(unittest.TestCase):
    def check(self, theory, given, all_of_them):
        kept = dict(given)
        wanted = [one for one in all_of_them if all(one[name] == given[name] for name in given)]
        self.assertIs(can_be_completed(theory, given), wanted != [])
        self.assertEqual(completed_words(theory, given), wanted[0] if wanted else None)
        missing = [name for name in theory[0] if name not in given]
        for name in missing:
            words = [one[name] for one in wanted]
            self.assertEqual(first_word(theory, name, given), min(words) if words else None)
        self.assertEqual(given, kept)

    def test_small_theories(self):
        for theory in MORE:
            for length in range(min(longest(theory), 2) + 1):
                all_of_them = solutions_of(theory, length)
                self.check(theory, {"": length}, all_of_them)
                for one in solutions_of((theory[0], ()), length)[::3]:
                    for names in (theory[0], theory[0][:1], theory[0][1:], theory[0][::2]):
                        self.check(theory, restrict(one, names), all_of_them)

    def test_many_names(self):
        for theory in theories_of_many_names(2, 40):
            all_of_them = solutions_of(theory, 1)
            self.check(theory, {"": 1}, all_of_them)
            for one in solutions_of((theory[0], ()), 1)[::17]:
                self.check(theory, restrict(one, theory[0][::3]), all_of_them)

    def test_the_result_is_new(self):
        given = {"": 2, "x": "ab"}
        theory = copy.deepcopy((("x",), (REPEATED,)))
        found = completed_words(theory, given)
        self.assertEqual(found, given)
        self.assertIsNot(found, given)
        self.assertEqual(theory, (("x",), (REPEATED,)))

    def test_large_machines_are_not_joined(self):
        # Each has more than ten states, so they are followed side by side.
        def nth(name, count):
            rows = [(at + 1, at + 1) for at in range(count - 1)]
            return (name,), (*rows, (-1, count), (count, count)), (*[0] * count, 1)

        theory = (("x", "y"), (nth("x", 11), nth("y", 12), DIFFERENT))
        found = first_words(theory, theory[0])
        self.assertEqual(found, {"": 12, "x": "a" * 10 + "ba", "y": "a" * 11 + "b"})
        given = {"": 12, "x": "a" * 10 + "bb"}
        self.assertEqual(completed_words(theory, given), {**given, "y": "a" * 11 + "b"})
        self.assertIsNone(completed_words(theory, {"": 11}))


class QuickTest(unittest.TestCase):
    def test_long_words(self):
        start = perf_counter()
        theory = (("x", "y", "z"), (UNDER, REPEATED, (("y", "z"), ((0, 1, 1, 0), (1, 0, 0, 1)), (1, 0))))
        found = completed_words(theory, {"": 200})
        self.assertEqual(found["x"], "ab" * 100)
        self.assertEqual(found["y"], found["x"])
        self.assertEqual(found["z"], "a" * 200)
        self.assertLess(perf_counter() - start, 3)

    def test_names_in_a_row(self):
        maker = random.Random(4)
        names = tuple("abcdefghijk")
        start = perf_counter()
        for _ in range(10):
            machines = [made_machine(maker, pair) for pair in zip(names, names[1:])]
            theory = (names, (ANY, *machines[:8]))
            found = first_words(theory, theory[0])
            self.assertTrue(found is None or satisfies(KIND, theory, found))
        self.assertLess(perf_counter() - start, 5)


if __name__ == "__main__":
    unittest.main()
