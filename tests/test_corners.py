"""Points 63 and 64: the corners of theories of the kind lines."""

import copy
import unittest
from fractions import Fraction
from time import perf_counter

from shadowlinks.bounds import greatest
from shadowlinks.corners import corners
from tests.linecases import EXAMPLE, THEORIES, cut_boxes, eq, is_satisfiable, le, made_theories, meetings, terms

XY = ("x", "y")
BOX = (le(1, x=1), le(0, x=-1), le(1, y=1), le(0, y=-1))


def fractions(theory):
    return [tuple(Fraction(*corner[name]) for name in theory[0]) for corner in corners(theory)]


class CornersTest(unittest.TestCase):
    def test_a_box(self):
        found = list(corners((XY, BOX)))
        self.assertEqual(found, [{"x": (x, 1), "y": (y, 1)} for x in (0, 1) for y in (0, 1)])

    def test_one_corner_and_none(self):
        self.assertEqual(list(corners(EXAMPLE)), [{"x": (3, 1), "y": (1, 1)}])
        self.assertEqual(list(corners((XY, (le(1, x=1), le(0, x=-1))))), [])
        self.assertEqual(list(corners((XY, (le(1, x=1, y=1),)))), [])
        self.assertEqual(list(corners((XY, ()))), [])
        self.assertEqual(list(corners((("x",), (le(2, x=3),)))), [{"x": (2, 3)}])
        self.assertEqual(list(corners((XY, (eq(1, x=2), eq(-1, x=1, y=3))))), [{"x": (1, 2), "y": (-1, 2)}])

    def test_without_names(self):
        self.assertEqual(list(corners(((), ()))), [{}])
        self.assertEqual(list(corners(((), (le(0), eq(0))))), [{}])
        self.assertEqual(list(corners(((), (le(-1),)))), [])

    def test_without_solutions(self):
        self.assertEqual(list(corners((XY, (*BOX, le(-1, x=1, y=1))))), [])
        self.assertEqual(list(corners((XY, (le(-1),)))), [])

    def test_points_met_by_several_constraints(self):
        more = (*BOX, le(2, x=1, y=1), le(0, x=1, y=-1), le(2, x=2), eq(0))
        self.assertEqual(fractions((XY, more)), [(0, 0), (0, 1), (1, 1)])
        self.assertEqual(fractions((XY, more + more)), [(0, 0), (0, 1), (1, 1)])

    def test_the_order_is_that_of_fractions(self):
        theory = (("x",), (le(-1, x=-2), le(2, x=3)))
        self.assertEqual(list(corners(theory)), [{"x": (1, 2)}, {"x": (2, 3)}])
        theory = (("x",), (le(1, x=-3), le(-1, x=4)))
        self.assertEqual(list(corners(theory)), [{"x": (-1, 3)}, {"x": (-1, 4)}])
        theory = (XY, (le(9, x=1), le(-2, x=-1), le(1, y=1), le(1, y=-1)))
        self.assertEqual(fractions(theory), [(2, -1), (2, 1), (9, -1), (9, 1)])

    def test_all_theories(self):
        for theory in (*THEORIES, *made_theories(7, 60, 3, 9)):
            self.assertEqual(fractions(theory), meetings(theory), theory)

    def test_boxes_with_cuts(self):
        several = 0
        for theory in cut_boxes(4, 40):
            found = fractions(theory)
            self.assertEqual(found, meetings(theory), theory)
            several += len(found) > 4
        self.assertGreater(several, 10)

    def test_greatest_values_are_taken_at_corners(self):
        for theory in (*made_theories(8, 40, 3, 9), *cut_boxes(4, 20)):
            if is_satisfiable(theory) and list(corners(theory)):
                for one in (terms(x=1), terms(y=-1), terms(x=2, y=1), terms(x=1, y=1, z=-1), ()):
                    high = greatest(theory, one) if all(name in theory[0] for name, _ in one) else None
                    if high is not None:
                        values = [
                            sum((Fraction(number) * Fraction(*corner[name]) for name, number in one), Fraction(0))
                            for corner in corners(theory)
                        ]
                        self.assertEqual(max(values), Fraction(*high))

    def test_new_dicts_and_arguments(self):
        theory = (XY, BOX)
        kept = copy.deepcopy(theory)
        for corner in corners(theory):
            corner["x"] = (99, 1)
            corner["w"] = (0, 1)
        self.assertEqual(len(list(corners(theory))), 4)
        self.assertEqual(theory, kept)
        self.assertEqual(len({id(corner) for corner in list(corners(theory))}), 4)

    def test_quick_at_the_limits(self):
        names = ("a", "b", "c", "d")
        box = tuple((((name, sign),), "<=", 9) for name in names for sign in (1, -1))
        start = perf_counter()
        self.assertEqual(len(list(corners((names, box)))), 16)
        slopes = tuple(
            (tuple((name, (at * 3 + k * k) % 9 + 1) for k, name in enumerate(names)), "<=", 50 + at) for at in range(8)
        )
        self.assertEqual(fractions((names, slopes)), meetings((names, slopes)))
        self.assertLess(perf_counter() - start, 2)


if __name__ == "__main__":
    unittest.main()
