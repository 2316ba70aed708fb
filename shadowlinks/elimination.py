"""Eliminating several names from a theory of any kind."""

from shadowlinks.machines import many_states, names_of
from shadowlinks.wordpaths import first_ground, with_fewer_machines
from shadowlinks.words import Words, without_words

# Machines that have so few moves when they are joined are joined without others, unless more states are left.
FEW_MOVES = 100
# All machines that meet in names are joined at once if they have at most so many moves when they are joined.
MOST_MOVES = 100000


def without_names(kind, theory, names):
    """Return what is left of the theory when the names are eliminated."""
    if isinstance(kind, Words):
        return _without_words(kind, theory, names)
    left = theory
    waiting = list(names)
    while waiting != []:
        first = _first_name(kind, left, waiting)
        left = kind.eliminate(left, first)
        waiting.remove(first)
    return left


def _without_words(kind, theory, names):
    """Return the same for the kind words, some names at once."""
    if len(names) == 0:
        return theory
    left = with_fewer_machines(theory)
    if first_ground(left) is None:
        return tuple([name for name in theory[0] if name not in names]), (kind.contradiction(),)
    waiting = list(names)
    while waiting != []:
        gone, left = _without_some(left, _first_name(kind, left, waiting), waiting)
        waiting = [name for name in waiting if name not in gone]
    return left


def _without_some(theory, name, names):
    """Return the name with others of the names, and what is left of the theory without them.

    Guessing the letters of several names at once can take far fewer states than one after another. It
    takes all machines that read one of the names, though, and together they must not be too many.
    """
    same = _names_of_the_same(theory[1], name, names)
    met = _with_names(theory[1], same)
    if met == []:
        return same, without_words(theory, same)
    if _many_moves(met) <= FEW_MOVES:
        left = without_words(theory, same)
        if many_states(left[1][-1:]) <= many_states(met):
            return same, left
    near = _connected_names(theory[1], same, names)
    gone = near if _many_moves(_with_names(theory[1], near)) <= MOST_MOVES else same
    return gone, without_words(theory, gone)


def _first_name(kind, theory, names):
    """Return the name that meets the fewest other names, because what is left then stays small."""
    return min([(len(_met(kind, theory, name)), name) for name in names])[1]


def _met(kind, theory, name):
    """Return the names of the constraints that mention the name, as a dict."""
    lists = [kind.names_in(constraint) for constraint in theory[1]]
    return {other: True for mentioned in lists if name in mentioned for other in mentioned}


def _names_of_the_same(machines, name, names):
    """Return the name and those of the names that only machines with this name mention."""
    elsewhere = names_of([machine for machine in machines if name not in machine[0]])
    return [other for other in names if other == name or other not in elsewhere]


def _connected_names(machines, start, names):
    """Return the names of the start and those of the names that machines connect with them."""
    near = start
    met = _with_names(machines, near)
    while len(near) < len(_names_in(met, names)):
        near = _names_in(met, names)
        met = _with_names(machines, near)
    return near


def _with_names(machines, names):
    """Return the machines that read the word of one of the names."""
    return [machine for machine in machines if any([name in machine[0] for name in names])]


def _names_in(machines, names):
    """Return those of the names whose words the machines read."""
    read = names_of(machines)
    return [name for name in names if name in read]


def _many_moves(machines):
    """Return how many moves the machines have at most when they are joined."""
    return many_states(machines) << len(names_of(machines))
