"""State tuples of a theory of the kind words and a constraint: how they follow one another.

A state tuple has a state of each machine of the theory and last a state of the machine in question, or -1.
"""

from shadowlinks.machines import all_end, next_states, spread_moves


def move_tables(theory, constraint):
    """Return the moves of all machines for the columns of the theory; those from -1, all of them -1, come last."""
    names, machines = theory
    last = [*spread_moves(constraint, names), [-1 for _ in range(1 << len(names))]]
    return [*[spread_moves(machine, names) for machine in machines], last]


def start_of(tables):
    """Return the state tuple of zeros."""
    return tuple([0 for _ in tables])


def following(tables, states):
    """Return the next state tuples, each once; there is none if a machine of the theory meets -1."""
    found = sorted(set(next_states(tables, states)))
    return [later for later in found if -1 not in later[:-1]]


def is_state_tuple(theory, constraint, states):
    """Return True if the tuple has a state of each machine, and last one of the machine in question or -1."""
    machines = theory[1]
    if len(states) != len(machines) + 1 or not -1 <= states[-1] < len(constraint[1]):
        return False
    return all([0 <= state < len(machine[1]) for machine, state in zip(machines, states)])


def is_bad(theory, constraint, states):
    """Return True if the machines of the theory hold in these states and the one in question fails, otherwise False."""
    return all_end(theory[1], states) and (states[-1] == -1 or constraint[2][states[-1]] == 0)


def reached(theory, constraint):
    """Return all state tuples that can be reached, and the first bad one, or None if there is none.

    The state tuples are the keys of a dict, those that fewer columns reach before the other ones; the
    value is the state tuple before. Behind a bad one, none is looked for.
    """
    tables = move_tables(theory, constraint)
    waiting = [start_of(tables)]
    before = {waiting[0]: None}
    at = 0
    while at < len(waiting):
        states = waiting[at]
        if is_bad(theory, constraint, states):
            return before, states
        for later in following(tables, states):
            if later not in before:
                before[later] = states
                waiting.append(later)
        at = at + 1
    return before, None


def words_to(theory, constraint, before, states):
    """Return an assignment whose columns lead from the state tuple of zeros to this one."""
    names = theory[0]
    tables = move_tables(theory, constraint)
    columns = []
    while before[states] is not None:
        earlier = before[states]
        columns.append(next_states(tables, earlier).index(states))
        states = earlier
    columns.reverse()
    return {"": len(columns), **_words_of(names, columns)}


def _words_of(names, columns):
    """Return the words of the names whose columns have these numbers."""
    places = [len(names) - 1 - at for at in range(len(names))]
    words = ["".join(["ab"[column >> place & 1] for column in columns]) for place in places]
    return dict(zip(names, words))
