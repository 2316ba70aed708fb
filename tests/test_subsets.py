"""Points 83 and 84: the least machine; and machines joined and without some of their names."""

import copy
import random
import unittest
from time import perf_counter

from shadowlinks.subsets import joined_least, least_machine, without_columns
from shadowlinks.words import Words
from tests.kindchecks import subsets
from tests.texts import check_tuples
from tests.wordcases import ANY, DIFFERENT, EVEN_GROUND, NONE, REPEATED, UNDER, all_assignments, does_hold, made_machine


def closed(start, step):
    """All that can be reached from some states."""
    found, waiting = set(start), list(start)
    while waiting:
        for state in step(waiting.pop()):
            if state not in found:
                found.add(state)
                waiting.append(state)
    return found


def faults(machine):
    """The properties of point 84 that the machine does not have."""
    names, moves, ends = machine
    states = range(len(moves))
    missing = []
    if closed([0], lambda state: [move for move in moves[state] if move != -1]) != set(states):
        missing.append("reached")
    lively = {state for state in states if ends[state]}
    lively = closed(lively, lambda state: [other for other in states if state in moves[other]])
    if not all(move == -1 or move in lively for row in moves for move in row):
        missing.append("lively")
    # -1 stands for what was met behind a failure.
    table = [*moves, (-1,) * 2 ** len(names)]
    accepts = [*map(bool, ends), False]
    apart = {(p, q) for p in range(-1, len(moves)) for q in range(-1, len(moves)) if accepts[p] != accepts[q]}
    for _ in range((len(moves) + 1) ** 2):
        more = {
            (p, q) for p in range(-1, len(moves)) for q in range(-1, len(moves))
            if any(pair in apart for pair in zip(table[p], table[q]))
        }
        if more <= apart:
            break
        apart |= more
    if not all((p, q) in apart for p in states for q in states if p != q):
        missing.append("apart")
    firsts = list(dict.fromkeys(move for row in moves for move in row if move > 0))
    if firsts != list(range(1, len(moves))):
        missing.append("order")
    return missing


def made_machines(seed, count, most):
    maker = random.Random(seed)
    return [made_machine(maker, ("x", "y"), most) for _ in range(count)]


class LeastTest(unittest.TestCase):
    def test_least_ones_stay(self):
        for machine in (ANY, NONE, EVEN_GROUND, REPEATED, DIFFERENT, UNDER):
            self.assertEqual(faults(machine), [])
            self.assertEqual(least_machine(machine), machine)

    def test_states_that_cannot_be_reached(self):
        machine = (("x",), ((2, -1), (0, 0), (-1, 0)), (1, 1, 0))
        self.assertEqual(least_machine(machine), REPEATED)

    def test_states_that_lead_to_no_end(self):
        machine = (("x",), ((1, 2), (2, 0), (2, 2)), (1, 0, 0))
        self.assertEqual(least_machine(machine), REPEATED)

    def test_states_that_nothing_tells_apart(self):
        machine = (("x",), ((1, -1), (-1, 2), (3, -1), (-1, 0)), (1, 0, 1, 0))
        self.assertEqual(least_machine(machine), REPEATED)
        machine = (("x",), ((1, 1), (0, 2), (2, 0)), (1, 1, 1))
        self.assertEqual(least_machine(machine), (("x",), ((0, 0),), (1,)))

    def test_no_solutions(self):
        nothing = (("x",), ((-1, -1),), (0,))
        for machine in (
            (("x",), ((0, 0),), (0,)), (("x",), ((-1, -1),), (0,)), (("x",), ((1, 1), (0, -1)), (0, 0)),
            (("x",), ((0, 1), (1, 0), (2, 2)), (0, 0, 1)),
        ):
            self.assertEqual(least_machine(machine), nothing)
        self.assertEqual(least_machine(((), ((0,),), (0,))), NONE)

    def test_the_numbers_of_the_states(self):
        machine = (("x",), ((2, 1), (1, 0), (2, 2)), (0, 1, 1))
        self.assertEqual(least_machine(machine), (("x",), ((1, 2), (1, 1), (2, 0)), (0, 1, 1)))
        machine = (("x", "y"), ((3, 0, 2, 1), (-1, -1, -1, 0), (2, 2, -1, -1), (3, 1, 1, 1)), (0, 1, 1, 1))
        wanted = (("x", "y"), ((1, 0, 2, 3), (1, 3, 3, 3), (2, 2, -1, -1), (-1, -1, -1, 0)), (0, 1, 1, 1))
        self.assertEqual(least_machine(machine), wanted)

    def test_the_properties_and_the_solutions(self):
        for machine in made_machines(1, 80, 5):
            found = least_machine(machine)
            self.assertEqual(found[0], machine[0])
            self.assertEqual(faults(found), [], (machine, found))
            for length in range(5 if len(machine[0]) < 2 else 4):
                for values in all_assignments(machine[0], length):
                    self.assertIs(does_hold(found, values), does_hold(machine, values))

    def test_machines_with_the_same_solutions_have_one_least_machine(self):
        maker = random.Random(2)
        for names, moves, ends in made_machines(3, 60, 4):
            # The states twice, in another order, and some that nothing leads to.
            count = len(moves)
            places = [0, *maker.sample(range(1, 2 * count), 2 * count - 1)]
            rows = [None] * (2 * count)
            lasts = [0] * (2 * count)
            for state in range(2 * count):
                row = [-1 if move == -1 else places[move + count * maker.randrange(2)] for move in moves[state % count]]
                rows[places[state]], lasts[places[state]] = tuple(row), ends[state % count]
            other = (names, tuple(rows), tuple(lasts))
            self.assertEqual(least_machine(other), least_machine((names, moves, ends)))

    def test_arguments_stay_and_results_are_tuples(self):
        for machine in made_machines(4, 10, 4):
            kept = copy.deepcopy(machine)
            check_tuples(self, least_machine(machine))
            self.assertEqual(machine, kept)

    def test_quick(self):
        maker = random.Random(5)
        names = ("v", "w", "x", "y", "z")
        moves = tuple(tuple(maker.randrange(-1, 200) for _ in range(32)) for _ in range(200))
        start = perf_counter()
        found = least_machine((names, moves, tuple(maker.randrange(2) for _ in range(200))))
        self.assertGreater(len(found[1]), 100)
        self.assertLess(perf_counter() - start, 2)


def nth_letter(count):
    """A machine that holds if x or y has a b at the index before the count."""
    rows = [(at + 1,) * 4 for at in range(count - 1)]
    return ("x", "y"), (*rows, (-1, count, count, count), (count,) * 4), (*[0] * count, 1)


class WithoutColumnsTest(unittest.TestCase):
    def words_of(self, machine, names, length):
        """The words of the names in the solutions of the machine."""
        solutions = [values for values in all_assignments(machine[0], length) if does_hold(machine, values)]
        return {tuple(values[name] for name in names) for values in solutions}

    def check(self, machine, hidden, longest):
        found = without_columns(machine, hidden)
        others = tuple(name for name in machine[0] if name not in hidden)
        self.assertEqual(found[0], others)
        self.assertIs(Words().is_valid(others, found), True)
        for length in range(longest + 1):
            wanted = self.words_of(machine, others, length)
            self.assertEqual(self.words_of(found, others, length), wanted, (machine, hidden))

    def test_examples(self):
        found = least_machine(without_columns(REPEATED, ["x"]))
        self.assertEqual(found, EVEN_GROUND)
        self.assertEqual(least_machine(without_columns(UNDER, ["y"])), (("x",), ((0, 0),), (1,)))
        self.assertEqual(least_machine(without_columns(DIFFERENT, ["x"])), (("y",), ((1, 1), (1, 1)), (0, 1)))
        self.assertEqual(without_columns((("x",), ((0, 0),), (0,)), ["x"]), ((), ((-1,),), (0,)))

    def test_some_or_all_names(self):
        maker = random.Random(6)
        for _ in range(60):
            machine = made_machine(maker, ("x", "y"), 4)
            for hidden in subsets(machine[0]):
                self.check(machine, hidden, 4)
        for _ in range(20):
            rows = [tuple(maker.randrange(-1, 3) for _ in range(8)) for _ in range(3)]
            for hidden in subsets(("x", "y", "z")):
                self.check((("x", "y", "z"), tuple(rows), (0, 1, maker.randrange(2))), hidden, 2)

    def test_machines_that_are_large_when_read_backwards(self):
        # A sequence leads to the end from any of 2 ** count sets of states.
        for count in (3, 12):
            for hidden, names in ((["y"], ("x",)), (["x", "y"], ())):
                found = least_machine(without_columns(nth_letter(count), hidden))
                moves = [(at + 1,) * 2 ** len(names) for at in range(count)]
                self.assertEqual(found, (names, (*moves, moves[-1]), (*[0] * count, 1)))
        self.check(nth_letter(3), ["y"], 4)

    def test_one_name_after_the_other_is_quick(self):
        # Without y, these have some hundred states, whose sets are many more.
        first = (
            (0, 1, 0, -1, 2, 2, 2, 1), (1, -1, 1, 0, 1, -1, 2, 1), (0, 0, 2, 2, 0, 1, 1, -1),
        )
        second = ((0, 0, 2, 1, 1, 0, 0, 1), (2, 1, 2, 0, 1, 1, 2, 2), (1, 2, 1, 2, 0, 0, 1, 2))
        names = ("x", "y", "z")
        both = joined_least([(names, first, (1, 1, 1)), (names, second, (1, 0, 1))])
        start = perf_counter()
        for order in ("xyz", "xzy", "yxz", "yzx", "zxy", "zyx"):
            left = both
            for at, name in enumerate(order):
                left = least_machine(without_columns(left, [name]))
                self.assertEqual(left, least_machine(without_columns(both, order[:at + 1])))
        self.assertLess(perf_counter() - start, 3)


class JoinedTest(unittest.TestCase):
    def test_joined(self):
        self.assertEqual(joined_least([]), ANY)
        self.assertEqual(joined_least([REPEATED]), REPEATED)
        self.assertEqual(joined_least([REPEATED, NONE]), (("x",), ((-1, -1),), (0,)))
        maker = random.Random(7)
        for _ in range(40):
            machines = [made_machine(maker, ("x", "y")) for _ in range(3)]
            found = joined_least(machines)
            self.assertEqual(faults(found), [])
            self.assertEqual(found[0], tuple(sorted({name for machine in machines for name in machine[0]})))
            for length in range(4):
                for values in all_assignments(("x", "y"), length):
                    self.assertIs(does_hold(found, values), all(does_hold(machine, values) for machine in machines))


if __name__ == "__main__":
    unittest.main()
