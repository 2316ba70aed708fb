"""Words that complete an assignment to a solution, found index by index.

No name is eliminated here: the machine that is left of several machines may need very many states.
"""

from shadowlinks.machines import all_end, column_numbers, connected_machines, least_ground, names_of, own_columns
from shadowlinks.names import merge_names
from shadowlinks.subsets import joined_least
from shadowlinks.theories import restrict

# Two machines are joined if they read this many names together, and have this many pairs of states.
MOST_NAMES = 3
MOST_PAIRS = 100


def first_words(theory, names):
    """Return the first solution of what is left of the theory without names other than these, or None."""
    fewer = with_fewer_machines(theory)
    length = first_ground(fewer)
    return None if length is None else _with_first_words(fewer, {"": length}, names)


def first_ground(theory):
    """Return the least ground of a solution, or None if there is no solution."""
    groups = connected_machines(theory[1])
    # Machines that share no names have their words side by side, and only the ground is common.
    return least_ground([length_machine(group) for group in groups]) if len(groups) > 1 else _least_length(theory)


def completed_words(theory, assignment):
    """Return the assignment with the first words of the names that it lacks, or None if it has no completion."""
    return _with_first_words(with_fewer_machines(theory), assignment, theory[0])


def can_be_completed(theory, assignment):
    """Return True if some solution has the ground and the words of the assignment, otherwise False."""
    lively = _lively(theory[1], _ways(theory, [assignment]))
    return _start_of(theory[1]) in lively[0]


def first_word(theory, name, assignment):
    """Return the first word of the name with which the assignment can be completed, or None.

    The assignment has the ground and may have words of other names.
    """
    ways = _ways(theory, [{**assignment, name: letter * assignment[""]} for letter in "ab"])
    lively = _lively(theory[1], ways)
    present = [_start_of(theory[1])]
    if present[0] not in lively[0]:
        return None
    word = ""
    for way, later in zip(ways, lively[1:]):
        by_a, by_b = [_met([way[states][own] for states in present], later) for own in (0, 1)]
        word = word + ("a" if by_a != [] else "b")
        present = by_a if by_a != [] else by_b
    return word


def with_fewer_machines(theory):
    """Return the theory with small machines joined; states from which a joined one cannot end are left out."""
    names, machines = theory
    found = []
    for machine in machines:
        fitting = [at for at, other in enumerate(found) if _are_small(machine, other)]
        if fitting == []:
            found.append(machine)
        else:
            found[fitting[0]] = joined_least([found[fitting[0]], machine])
    return names, tuple(found)


def theory_about(theory, names):
    """Return a theory that tells the same about the names: the machines that are connected with them.

    The other machines only tell for which grounds there are words.
    """
    near, far = [], []
    for group in connected_machines(with_fewer_machines(theory)[1]):
        if any([name in names_of(group) for name in names]):
            near.extend(group)
        else:
            far.append(length_machine(group))
    return merge_names(names, names_of(near)), (*near, *far)


def length_machine(machines):
    """Return the machine without names that holds for the grounds for which the machines hold for some words."""
    guesses = _guesses(machines, names_of(machines))
    columns = [0 for _ in machines]
    later = {}
    present = (_start_of(machines),)
    numbers = {}
    while present not in numbers:
        numbers[present] = len(numbers)
        for states in present:
            if states not in later:
                later[states] = _next_states(machines, guesses, states, columns)
        present = tuple(sorted(set([following for states in present for following in later[states]])))
    moves = [(number + 1,) for number in range(len(numbers) - 1)]
    ends = [1 if any([all_end(machines, one) for one in own]) else 0 for own in numbers]
    return (), (*moves, (numbers[present],)), tuple(ends)


def _with_first_words(theory, assignment, names):
    """Return the assignment with the first words of those of the names that it lacks, or None."""
    values = {name: "a" * assignment[""] for name in names}
    values.update(assignment)
    for group in connected_machines(theory[1]):
        own = names_of(group)
        found = _completed((own, group), restrict(assignment, [name for name in own if name in assignment]), names)
        if found is None:
            return None
        values.update(found)
    return values


def _completed(theory, assignment, names):
    """Return the same for a theory whose machines are connected."""
    if not can_be_completed(theory, assignment):
        return None
    values = dict(assignment)
    for name in theory[0]:
        if name in names and name not in assignment:
            values[name] = first_word(theory, name, values)
    return values


def _least_length(theory):
    """Return the same for a theory whose machines are connected."""
    names, machines = theory
    guesses = _guesses(machines, names)
    columns = [0 for _ in machines]
    present = [_start_of(theory[1])]
    seen = {present[0]: True}
    length = 0
    while present != []:
        if any([all_end(machines, states) for states in present]):
            return length
        groups = [_next_states(machines, guesses, states, columns) for states in present]
        present = list({later: True for group in groups for later in group if later not in seen})
        for states in present:
            seen[states] = True
        length = length + 1
    return None


def _are_small(first, second):
    """Return True if two machines meet and are so small that they are joined, otherwise False."""
    both = merge_names(first[0], second[0])
    apart = len(both) == len(first[0]) + len(second[0])
    if len(both) > MOST_NAMES or apart and () not in (first[0], second[0]):
        return False
    return len(first[1]) * len(second[1]) <= MOST_PAIRS


def _start_of(machines):
    """Return the states of the machines before they read."""
    return tuple([0 for _ in machines])


def _ways(theory, assignments):
    """Return for each index the states that can be met there, with the next states by each of the assignments.

    The assignments have the same names. The last dict has the states that can be met behind the words.
    """
    names, machines = theory
    guesses = _guesses(machines, [name for name in names if name not in assignments[0]])
    numbers = [_numbers(theory, assignment) for assignment in assignments]
    present = [_start_of(theory[1])]
    ways = []
    for index in range(assignments[0][""]):
        columns = [[own[index] for own in rows] for rows in numbers]
        way = {states: [_next_states(machines, guesses, states, own) for own in columns] for states in present}
        ways.append(way)
        present = list({later: True for groups in list(way.values()) for group in groups for later in group})
    ways.append({states: [] for states in present})
    return ways


def _numbers(theory, assignment):
    """Return for each machine its column numbers, in which each letter of a name without a word is an a."""
    names, machines = theory
    filled = {name: "a" * assignment[""] for name in names}
    filled.update(assignment)
    return [column_numbers(machine[0], filled) for machine in machines]


def _guesses(machines, missing):
    """Return for each machine how the letters of the missing names at one index can be guessed.

    A guess is a pair: what the letters add to the column number of the machine, and a number for the
    letters that later machines read, too. The guesses stand in a dict, by the number for the letters
    that are known from the machines before.
    """
    found = []
    before = []
    for at, machine in enumerate(machines):
        fresh = [name for name in machine[0] if name in missing and name not in before]
        known = [*before, *fresh]
        later = [name for other in machines[at + 1:] for name in other[0]]
        kept = [name for name in known if name in later]
        found.append(_guesses_of(machine[0], before, known, kept))
        before = kept
    return found


def _guesses_of(own, before, known, kept):
    """Return the guesses of one machine with its own names, for the names whose letters are known around it."""
    given = [name for name in own if name not in known]
    added = own_columns(own, [*known, *given])[::1 << len(given)]
    guesses = {}
    for start, number, end in zip(own_columns(before, known), added, own_columns(kept, known)):
        guesses.setdefault(start, []).append((number, end))
    return guesses


def _next_states(machines, guesses, states, columns):
    """Return the next states by the column numbers and all guesses, each once, if no machine meets -1."""
    found = {((), 0): True}
    for machine, own, state, column in zip(machines, guesses, states, columns):
        row = machine[1][state]
        pairs = [(before, row[column + number], end) for before, start in found for number, end in own[start]]
        found = {((*before, move), end): True for before, move, end in pairs if move != -1}
    return list({later: True for later, _ in found})


def _lively(machines, ways):
    """Return for each index, and behind the words, the states from which all machines can end."""
    found = [{states: True for states in ways[-1] if all_end(machines, states)}]
    for way in ways[-2::-1]:
        later = found[-1]
        found.append({states: True for states in way if _met(way[states], later) != []})
    return found[::-1]


def _met(groups, wanted):
    """Return the states of the groups that are wanted, each once."""
    return list({states: True for group in groups for states in group if states in wanted})
