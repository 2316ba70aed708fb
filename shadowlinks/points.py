"""Points that complete an assignment to a solution of a theory of the kind lines.

No name is eliminated here: many inequalities without a name may be very many.
"""

from shadowlinks.ratios import ratio
from shadowlinks.tableaus import filled_tableau


def completed_point(theory, assignment):
    """Return the assignment with the first values of the names that it lacks, or None if it has no completion."""
    names, constraints = theory
    given = [pinned(name, assignment[name]) for name in names if name in assignment]
    tableau = filled_tableau((names, (*constraints, *given)))
    if tableau.clash is not None:
        return None
    values = dict(assignment)
    index = len(constraints) + len(given)
    for name in names:
        if name not in assignment:
            top, bottom = _first_value(tableau, name)
            # Equations come before inequalities in a tableau, so the value is told by two inequalities.
            tableau.limit(index, (((name, bottom),), "<=", top))
            tableau.limit(index + 1, (((name, -bottom),), "<=", -top))
            index = index + 2
            values[name] = top, bottom
    return values


def pinned(name, value):
    """Return the equation that gives the name the value."""
    return ((name, value[1]),), "=", value[0]


def _first_value(tableau, name):
    """Return the least value of the name, or the greatest one, or 0."""
    for sign in (-1, 1):
        found = tableau.summit(((name, sign),))
        if found is not None:
            return ratio(sign * found[0], found[1])
    return 0, 1
