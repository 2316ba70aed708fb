"""Checking, projecting and solving theories of any kind."""

from shadowlinks.elimination import without_names
from shadowlinks.errors import InvalidConstraint, InvalidTheory, NoSolution
from shadowlinks.lines import Lines
from shadowlinks.names import are_full_names
from shadowlinks.points import completed_point
from shadowlinks.theories import join, restrict
from shadowlinks.wordpaths import completed_words, first_words
from shadowlinks.words import Words


def check_theory(kind, theory):
    """Raise an error unless the names and all constraints of the theory are valid."""
    names, constraints = theory
    if not are_full_names(names):
        raise InvalidTheory("the names are not full names in ascending order")
    for index, constraint in enumerate(constraints):
        if not kind.is_valid(names, constraint):
            raise InvalidConstraint(index)


def satisfies(kind, theory, assignment):
    """Return True if all constraints of the theory hold, otherwise False."""
    return all([kind.holds(constraint, assignment) for constraint in theory[1]])


def shadow(kind, theory, *, shown):
    """Return the shadow of the theory over the shown names."""
    return kind.normal(without_names(kind, theory, [name for name in theory[0] if name not in shown]))


def part_shadow(kind, part):
    """Return the shadow of the part over its shown names."""
    return shadow(kind, part.theory, shown=part.shown)


def solve(kind, theory):
    """Return the first solution of the theory, or None."""
    if isinstance(kind, Words):
        return first_words(theory, theory[0])
    if isinstance(kind, Lines):
        return completed_point(theory, {})
    theories = _eliminated(kind, theory, theory[0])
    start = kind.ground(theories[0])
    return None if start is None else _lifted(kind, theories, theory[0], start)


def can_be_solved(kind, theories):
    """Return True if the join of the theories has a solution, otherwise False."""
    return solve(kind, join(theories)) is not None


def complete(kind, theory, assignment):
    """Return the assignment of some names completed to a solution of the theory."""
    found = _completed(kind, theory, assignment)
    if found is None:
        raise NoSolution("the assignment cannot be extended to a solution")
    return found


def follows(kind, theory, constraint):
    """Return True if the constraint follows from the theory, otherwise False."""
    return kind.counterexample(theory, constraint) is None


def implies(kind, first, second):
    """Return True if every constraint of the second theory follows from the first, otherwise False."""
    for constraint in second[1]:
        if not follows(kind, first, constraint):
            return False
    return True


def _completed(kind, theory, assignment):
    """Return the assignment of some names completed to a solution of the theory, or None."""
    if isinstance(kind, Words):
        return completed_words(theory, assignment)
    if isinstance(kind, Lines):
        return completed_point(theory, assignment)
    missing = [name for name in theory[0] if name not in assignment]
    theories = _eliminated(kind, theory, missing)
    if not satisfies(kind, theories[0], assignment):
        return None
    return _lifted(kind, theories, missing, assignment)


def _eliminated(kind, theory, names):
    """Return the theories without the names, with the first name, with the first two, and so on."""
    theories = [theory]
    for name in names[::-1]:
        theories.append(kind.eliminate(theories[-1], name))
    return theories[::-1]


def _lifted(kind, theories, names, assignment):
    """Return the assignment with values of the names, for the theories that `_eliminated` returned."""
    values = dict(assignment)
    for name, theory in zip(names, theories[1:]):
        others = [other for other in theory[0] if other != name]
        values[name] = kind.lift(theory, name, restrict(values, others))
    return values
