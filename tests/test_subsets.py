"""Points 83 and 84: the least machine."""

import copy
import random
import unittest
from time import perf_counter

from shadowlinks.subsets import least_machine
from tests.texts import check_tuples
from tests.wordcases import ANY, DIFFERENT, EVEN_GROUND, NONE, REPEATED, UNDER, all_assignments, does_hold, made_machine


def closed(start, step):
    """All that can be reached from some states."""
    found, waiting = set(start), list(start)
    while waiting:
        for state in step(waiting.pop()):
            if state not in found:
                found.add(state)
                waiting.append(state)
    return found


def faults(machine):
    """The properties of point 84 that the machine does not have."""
    names, moves, ends = machine
    states = range(len(moves))
    missing = []
    if closed([0], lambda state: [move for move in moves[state] if move != -1]) != set(states):
        missing.append("reached")
    lively = {state for state in states if ends[state]}
    lively = closed(lively, lambda state: [other for other in states if state in moves[other]])
    if not all(move == -1 or move in lively for row in moves for move in row):
        missing.append("lively")
    # -1 stands for what was met behind a failure.
    table = [*moves, (-1,) * 2 ** len(names)]
    accepts = [*map(bool, ends), False]
    apart = {(p, q) for p in range(-1, len(moves)) for q in range(-1, len(moves)) if accepts[p] != accepts[q]}
    for _ in range((len(moves) + 1) ** 2):
        more = {
            (p, q) for p in range(-1, len(moves)) for q in range(-1, len(moves))
            if any(pair in apart for pair in zip(table[p], table[q]))
        }
        if more <= apart:
            break
        apart |= more
    if not all((p, q) in apart for p in states for q in states if p != q):
        missing.append("apart")
    firsts = list(dict.fromkeys(move for row in moves for move in row if move > 0))
    if firsts != list(range(1, len(moves))):
        missing.append("order")
    return missing


def made_machines(seed, count, most):
    maker = random.Random(seed)
    return [made_machine(maker, ("x", "y"), most) for _ in range(count)]


class LeastTest(unittest.TestCase):
    def test_least_ones_stay(self):
        for machine in (ANY, NONE, EVEN_GROUND, REPEATED, DIFFERENT, UNDER):
            self.assertEqual(faults(machine), [])
            self.assertEqual(least_machine(machine), machine)

    def test_states_that_cannot_be_reached(self):
        machine = (("x",), ((2, -1), (0, 0), (-1, 0)), (1, 1, 0))
        self.assertEqual(least_machine(machine), REPEATED)

    def test_states_that_lead_to_no_end(self):
        machine = (("x",), ((1, 2), (2, 0), (2, 2)), (1, 0, 0))
        self.assertEqual(least_machine(machine), REPEATED)

    def test_states_that_nothing_tells_apart(self):
        machine = (("x",), ((1, -1), (-1, 2), (3, -1), (-1, 0)), (1, 0, 1, 0))
        self.assertEqual(least_machine(machine), REPEATED)
        machine = (("x",), ((1, 1), (0, 2), (2, 0)), (1, 1, 1))
        self.assertEqual(least_machine(machine), (("x",), ((0, 0),), (1,)))

    def test_no_solutions(self):
        nothing = (("x",), ((-1, -1),), (0,))
        for machine in (
            (("x",), ((0, 0),), (0,)), (("x",), ((-1, -1),), (0,)), (("x",), ((1, 1), (0, -1)), (0, 0)),
            (("x",), ((0, 1), (1, 0), (2, 2)), (0, 0, 1)),
        ):
            self.assertEqual(least_machine(machine), nothing)
        self.assertEqual(least_machine(((), ((0,),), (0,))), NONE)

    def test_the_numbers_of_the_states(self):
        machine = (("x",), ((2, 1), (1, 0), (2, 2)), (0, 1, 1))
        self.assertEqual(least_machine(machine), (("x",), ((1, 2), (1, 1), (2, 0)), (0, 1, 1)))
        machine = (("x", "y"), ((3, 0, 2, 1), (-1, -1, -1, 0), (2, 2, -1, -1), (3, 1, 1, 1)), (0, 1, 1, 1))
        wanted = (("x", "y"), ((1, 0, 2, 3), (1, 3, 3, 3), (2, 2, -1, -1), (-1, -1, -1, 0)), (0, 1, 1, 1))
        self.assertEqual(least_machine(machine), wanted)

    def test_the_properties_and_the_solutions(self):
        for machine in made_machines(1, 80, 5):
            found = least_machine(machine)
            self.assertEqual(found[0], machine[0])
            self.assertEqual(faults(found), [], (machine, found))
            for length in range(5 if len(machine[0]) < 2 else 4):
                for values in all_assignments(machine[0], length):
                    self.assertIs(does_hold(found, values), does_hold(machine, values))

    def test_machines_with_the_same_solutions_have_one_least_machine(self):
        maker = random.Random(2)
        for names, moves, ends in made_machines(3, 60, 4):
            # The states twice, in another order, and some that nothing leads to.
            count = len(moves)
            places = [0, *maker.sample(range(1, 2 * count), 2 * count - 1)]
            rows = [None] * (2 * count)
            lasts = [0] * (2 * count)
            for state in range(2 * count):
                row = [-1 if move == -1 else places[move + count * maker.randrange(2)] for move in moves[state % count]]
                rows[places[state]], lasts[places[state]] = tuple(row), ends[state % count]
            other = (names, tuple(rows), tuple(lasts))
            self.assertEqual(least_machine(other), least_machine((names, moves, ends)))

    def test_arguments_stay_and_results_are_tuples(self):
        for machine in made_machines(4, 10, 4):
            kept = copy.deepcopy(machine)
            check_tuples(self, least_machine(machine))
            self.assertEqual(machine, kept)

    def test_quick(self):
        maker = random.Random(5)
        names = ("v", "w", "x", "y", "z")
        moves = tuple(tuple(maker.randrange(-1, 200) for _ in range(32)) for _ in range(200))
        start = perf_counter()
        found = least_machine((names, moves, tuple(maker.randrange(2) for _ in range(200))))
        self.assertGreater(len(found[1]), 100)
        self.assertLess(perf_counter() - start, 2)


if __name__ == "__main__":
    unittest.main()
