"""The kind words: names have words of the letters a and b as values, and constraints are machines."""

from shadowlinks.errors import NoSolution
from shadowlinks.kinds import Kind
from shadowlinks.machines import column_numbers, joined_machine, least_ground, rearranged_machine, run
from shadowlinks.names import is_ascending, merge_names, replace_names
from shadowlinks.statetuples import following, is_bad, is_state_tuple, move_tables, reached, start_of, words_to
from shadowlinks.subsets import joined_least, least_machine, without_columns
from shadowlinks.wordpaths import can_be_completed, completed_words, first_word, theory_about


class Words(Kind):
    """The kind words."""

    WORD = "words"

    def names_in(self, constraint):
        """Return the names of the machine."""
        return constraint[0]

    def is_valid(self, names, constraint):
        """Return True if the names ascend and the moves and ends fit them and each other, otherwise False."""
        own, moves, ends = constraint
        if not super().is_valid(names, constraint) or not is_ascending(own):
            return False
        if moves == () or len(moves) != len(ends) or not all([end in (0, 1) for end in ends]):
            return False
        columns = 1 << len(own)
        return all([len(row) == columns and all([-1 <= move < len(moves) for move in row]) for row in moves])

    def holds(self, constraint, assignment):
        """Return True if the machine reads the words and ends in an end, otherwise False."""
        state = run(constraint, column_numbers(constraint[0], assignment))
        return state != -1 and constraint[2][state] == 1

    def contradiction(self):
        """Return the machine without names and without ends."""
        return (), ((-1,),), (0,)

    def rename(self, theory, table):
        """Return the theory with other names; the columns are rearranged, the states keep their numbers."""
        names, machines = theory
        renamed = tuple([rearranged_machine(machine, table) for machine in machines])
        return merge_names(replace_names(names, table)), renamed

    def eliminate(self, theory, name):
        """Return the machines without the name, and the others as one machine that guesses its letters."""
        return without_words(theory, [name])

    def lift(self, theory, name, assignment):
        """Return the first word that fits, in alphabetical order."""
        found = first_word(theory, name, assignment)
        if found is None:
            raise NoSolution(f"no value fits for {name}")
        return found

    def ground(self, theory):
        """Return the least ground under which all machines hold, as an assignment, or None."""
        length = least_ground(theory[1])
        return None if length is None else {"": length}

    def normal(self, theory):
        """Return the theory of the least machine over all names."""
        names, machines = theory
        return names, (least_machine(joined_machine(names, [joined_least(machines)])),)

    def certificate(self, theory, constraint):
        """Return all state tuples that can be reached if they show the constraint, otherwise None."""
        before, bad = reached(theory, constraint)
        return tuple(list(before)) if bad is None else None

    def accepts(self, theory, constraint, certificate):
        """Return True if the state tuples are closed and show the constraint, otherwise False."""
        tables = move_tables(theory, constraint)
        found = {states: True for states in certificate}
        if start_of(tables) not in found:
            return False
        for states in found:
            if not is_state_tuple(theory, constraint, states) or is_bad(theory, constraint, states):
                return False
            if not all([later in found for later in following(tables, states)]):
                return False
        return True

    def counterexample(self, theory, constraint):
        """Return a solution with the least ground in which the constraint fails, or None."""
        # Machines that share no names with the constraint only tell which grounds there are.
        about = theory_about(theory, constraint[0])
        before, bad = reached(about, constraint)
        return None if bad is None else completed_words(theory, words_to(about, constraint, before, bad))

    def pin(self, names, assignment):
        """Return one machine over all names, which reads the words and then ends."""
        numbers = column_numbers(names, assignment)
        columns = list(range(1 << len(names)))
        moves = [tuple([at + 1 if own == number else -1 for own in columns]) for at, number in enumerate(numbers)]
        moves.append(tuple([-1 for _ in columns]))
        return names, ((names, tuple(moves), (*[0 for _ in numbers], 1)),)


def without_words(theory, hidden):
    """Return the machines without the hidden names, and the others as one machine that guesses their letters."""
    names, machines = theory
    kept = [machine for machine in machines if not _mentions(machine, hidden)]
    met = [machine for machine in machines if _mentions(machine, hidden)]
    if met != []:
        kept.append(least_machine(without_columns(joined_least(met), hidden)))
    return tuple([name for name in names if name not in hidden]), tuple(kept)


def solutions(theory, length):
    """Yield the solutions with this ground, each as a new dict, in ascending order of the words."""
    start = {"": length}
    if can_be_completed(theory, start):
        yield from _extensions(theory, start)


def _extensions(theory, values):
    """Yield the solutions with these values, of which there is at least one."""
    names = theory[0]
    missing = [name for name in names if name not in values]
    if missing == []:
        yield dict(values)
        return
    for word in _words_of_length(values[""]):
        more = {**values, missing[0]: word}
        if can_be_completed(theory, more):
            yield from _extensions(theory, more)


def _words_of_length(length):
    """Return all words of the length, in alphabetical order."""
    words = [""]
    for _ in range(length):
        words = [word + letter for word in words for letter in "ab"]
    return words


def _mentions(machine, names):
    """Return True if the machine reads the words of one of the names, otherwise False."""
    return any([name in machine[0] for name in names])
