"""The kind words: names have words of the letters a and b as values, and constraints are machines."""

from shadowlinks.errors import NoSolution
from shadowlinks.kinds import Kind
from shadowlinks.machines import all_end, column_numbers, joined_machine, rearranged_machine, run
from shadowlinks.names import is_ascending, merge_names, replace_names
from shadowlinks.shadows import satisfies
from shadowlinks.statetuples import following, is_bad, is_state_tuple, move_tables, reached, start_of, words_to
from shadowlinks.subsets import least_machine, without_name


class Words(Kind):
    """The kind words."""

    WORD = "words"

    def names_in(self, constraint):
        """Return the names of the machine."""
        return constraint[0]

    def is_valid(self, names, constraint):
        """Return True if the names ascend and the moves and ends fit them and each other, otherwise False."""
        own, moves, ends = constraint
        if not super().is_valid(names, constraint) or not is_ascending(own):
            return False
        if moves == () or len(moves) != len(ends) or not all([end in (0, 1) for end in ends]):
            return False
        columns = 1 << len(own)
        return all([len(row) == columns and all([-1 <= move < len(moves) for move in row]) for row in moves])

    def holds(self, constraint, assignment):
        """Return True if the machine reads the words and ends in an end, otherwise False."""
        state = run(constraint, column_numbers(constraint[0], assignment))
        return state != -1 and constraint[2][state] == 1

    def contradiction(self):
        """Return the machine without names and without ends."""
        return (), ((-1,),), (0,)

    def rename(self, theory, table):
        """Return the theory with other names; the columns are rearranged, the states keep their numbers."""
        names, machines = theory
        renamed = tuple([rearranged_machine(machine, table) for machine in machines])
        return merge_names(replace_names(names, table)), renamed

    def eliminate(self, theory, name):
        """Return the machines without the name, and the others as one machine that guesses its letters."""
        names, machines = theory
        kept = [machine for machine in machines if name not in machine[0]]
        met = [machine for machine in machines if name in machine[0]]
        if met != []:
            kept.append(least_machine(without_name(_joined(met), name)))
        return tuple([other for other in names if other != name]), tuple(kept)

    def lift(self, theory, name, assignment):
        """Return the first word that fits, in alphabetical order."""
        length = assignment[""]
        machines = theory[1]
        numbers = [_numbers(machines, {**assignment, name: word}) for word in ("a" * length, "b" * length)]
        ways = _ways(machines, numbers, length)
        lively = _lively(machines, ways)
        states = tuple([0 for _ in machines])
        if states not in lively[0]:
            raise NoSolution(f"no value fits for {name}")
        found = ""
        for index in range(length):
            by_a, by_b = ways[index][states]
            letter = "a" if by_a in lively[index + 1] else "b"
            states = by_a if letter == "a" else by_b
            found = found + letter
        return found

    def ground(self, theory):
        """Return the least ground under which all machines hold, as an assignment, or None."""
        machines = theory[1]
        states = tuple([0 for _ in machines])
        seen = {}
        while states not in seen:
            if all_end(machines, states):
                return {"": len(seen)}
            seen[states] = True
            states = tuple([machine[1][state][0] for machine, state in zip(machines, states)])
            if -1 in states:
                return None
        return None

    def normal(self, theory):
        """Return the theory of the least machine over all names."""
        names, machines = theory
        return names, (least_machine(joined_machine(names, [_joined(machines)])),)

    def certificate(self, theory, constraint):
        """Return all state tuples that can be reached if they show the constraint, otherwise None."""
        before, bad = reached(theory, constraint)
        return tuple(list(before)) if bad is None else None

    def accepts(self, theory, constraint, certificate):
        """Return True if the state tuples are closed and show the constraint, otherwise False."""
        tables = move_tables(theory, constraint)
        found = {states: True for states in certificate}
        if start_of(tables) not in found:
            return False
        for states in found:
            if not is_state_tuple(theory, constraint, states) or is_bad(theory, constraint, states):
                return False
            if not all([later in found for later in following(tables, states)]):
                return False
        return True

    def counterexample(self, theory, constraint):
        """Return a solution with the least ground in which the constraint fails, or None."""
        before, bad = reached(theory, constraint)
        return None if bad is None else words_to(theory, constraint, before, bad)

    def pin(self, names, assignment):
        """Return one machine over all names, which reads the words and then ends."""
        numbers = column_numbers(names, assignment)
        columns = list(range(1 << len(names)))
        moves = [tuple([at + 1 if own == number else -1 for own in columns]) for at, number in enumerate(numbers)]
        moves.append(tuple([-1 for _ in columns]))
        return names, ((names, tuple(moves), (*[0 for _ in numbers], 1)),)


def solutions(theory, length):
    """Yield the solutions with this ground, each as a new dict, in ascending order of the words."""
    theories = [theory]
    for name in theory[0][::-1]:
        theories.append(Words().eliminate(theories[-1], name))
    wider = theories[-2::-1]
    start = {"": length}
    if satisfies(Words(), theories[-1], start):
        yield from _extensions(wider, start)


def _extensions(theories, values):
    """Yield the solutions with these values; each theory has one name more than the one before it."""
    if theories == []:
        yield dict(values)
        return
    name = theories[0][0][-1]
    wider = theories[1:]
    for word in _words_of_length(values[""]):
        more = {**values, name: word}
        if satisfies(Words(), theories[0], more):
            yield from _extensions(wider, more)


def _words_of_length(length):
    """Return all words of the length, in alphabetical order."""
    words = [""]
    for _ in range(length):
        words = [word + letter for word in words for letter in "ab"]
    return words


def _joined(machines):
    """Return one machine over the names of all machines that holds where all of them hold."""
    found = (), ((0,),), (1,)
    for machine in machines:
        found = least_machine(joined_machine(merge_names(found[0], machine[0]), [found, machine]))
    return found


def _numbers(machines, assignment):
    """Return for each machine the column numbers of its words."""
    return [column_numbers(machine[0], assignment) for machine in machines]


def _ways(machines, numbers, length):
    """Return for each index of a word the states that can be met there, with the next states by a and by b.

    The last dict has the states that can be met behind the word.
    """
    present = [tuple([0 for _ in machines])]
    ways = []
    for index in range(length):
        by_a, by_b = [[own[index] for own in columns] for columns in numbers]
        way = {states: (_moved(machines, states, by_a), _moved(machines, states, by_b)) for states in present}
        ways.append(way)
        later = {states: True for pair in list(way.values()) for states in pair if states is not None}
        present = list(later)
    ways.append({states: () for states in present})
    return ways


def _moved(machines, states, numbers):
    """Return the next states of the machines by these column numbers, or None if one meets -1."""
    found = tuple([machine[1][state][number] for machine, state, number in zip(machines, states, numbers)])
    return None if -1 in found else found


def _lively(machines, ways):
    """Return for each index, and behind the word, the states from which all machines can end."""
    found = [{states: True for states in ways[-1] if all_end(machines, states)}]
    for way in ways[-2::-1]:
        later = found[-1]
        found.append({states: True for states in way if any([other in later for other in way[states]])})
    return found[::-1]
