"""Points 18 and 19 in the kind lines: completions, without eliminating names."""

import copy
import random
import unittest
from time import perf_counter

from shadowlinks.lines import Lines
from shadowlinks.points import completed_point, pinned
from shadowlinks.shadows import satisfies, shadow
from shadowlinks.theories import restrict
from tests.linecases import EXAMPLE, THEORIES, cut_boxes, eq, is_satisfiable, le, made_theories

KIND = Lines()
XY = ("x", "y")


def by_shadows(theory, given):
    """The completion that point 19 defines, or None."""
    values = dict(given)
    left = shadow(KIND, theory, shown=list(given))
    if not satisfies(KIND, left, given):
        return None
    for name in theory[0]:
        if name not in values:
            left = shadow(KIND, theory, shown=[*values, name])
            values[name] = KIND.lift(left, name, restrict(values, list(values)))
    return values


class CompletedTest(unittest.TestCase):
    def test_examples(self):
        self.assertEqual(completed_point(EXAMPLE, {}), {"x": (3, 1), "y": (1, 1)})
        self.assertEqual(completed_point(EXAMPLE, {"y": (3, 2)}), {"x": (5, 2), "y": (3, 2)})
        self.assertIsNone(completed_point(EXAMPLE, {"y": (1, 2)}))
        self.assertIsNone(completed_point(EXAMPLE, {"x": (3, 1), "y": (2, 1)}))

    def test_least_greatest_and_0(self):
        for constraints, value in (
            ((le(3, x=2), le(1, x=-3)), (-1, 3)), ((le(3, x=2),), (3, 2)), ((), (0, 1)), ((eq(-5, x=2),), (-5, 2)),
            ((le(3, x=1, y=1), le(0, y=-1)), (3, 1)), ((le(-3, x=-1, y=-1), le(0, y=1)), (3, 1)),
            ((le(3, x=1, y=1),), (0, 1)), ((eq(2, x=3, y=1),), (0, 1)), ((le(7, x=-4),), (-7, 4)),
        ):
            self.assertEqual(completed_point((XY, constraints), {})["x"], value, constraints)

    def test_edges(self):
        self.assertEqual(completed_point(((), ()), {}), {})
        self.assertEqual(completed_point(((), (le(0), eq(0))), {}), {})
        self.assertIsNone(completed_point(((), (le(-1),)), {}))
        self.assertIsNone(completed_point(((), (eq(1),)), {}))
        self.assertIsNone(completed_point((XY, (le(1, x=1), le(-2, x=-1))), {}))
        self.assertEqual(completed_point((XY, ()), {"y": (7, 3)}), {"x": (0, 1), "y": (7, 3)})

    def test_all_theories(self):
        maker = random.Random(3)
        values = [(0, 1), (1, 2), (-3, 1), (2, 1), (-1, 3)]
        for theory in (*THEORIES, *made_theories(5, 60, 4, 7), *cut_boxes(5, 20)):
            self.assertEqual(completed_point(theory, {}) is not None, is_satisfiable(theory))
            for _ in range(4):
                given = {name: maker.choice(values) for name in theory[0] if maker.randrange(3) == 0}
                kept = dict(given)
                found = completed_point(theory, given)
                self.assertEqual(found, by_shadows(theory, given), (theory, given))
                self.assertEqual(given, kept)
                self.assertIsNot(found, given)

    def test_arguments_stay(self):
        theory = copy.deepcopy(EXAMPLE)
        completed_point(theory, {"y": (2, 1)})
        self.assertEqual(theory, EXAMPLE)

    def test_pinned(self):
        self.assertEqual(pinned("x", (-1, 2)), eq(-1, x=2))

    def test_quick_with_many_names(self):
        maker = random.Random(6)
        names = tuple("abcdefghijk")
        start = perf_counter()
        for _ in range(5):
            constraints = []
            for _ in range(32):
                chosen = sorted(maker.sample(names, 4))
                one = tuple((name, maker.choice((-9, -4, -1, 1, 2, 7))) for name in chosen)
                constraints.append((one, "<=", maker.randrange(100)))
            found = completed_point((names, tuple(constraints)), {})
            self.assertIs(satisfies(KIND, (names, tuple(constraints)), found), True)
        self.assertLess(perf_counter() - start, 3)


if __name__ == "__main__":
    unittest.main()
