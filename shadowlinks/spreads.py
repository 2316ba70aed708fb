"""The values of sums and the bounded solutions of theories of the kind wholes."""

from shadowlinks.errors import NoSolution
from shadowlinks.lattices import values_in
from shadowlinks.shadows import satisfies
from shadowlinks.wholes import Wholes, fitting


def values_of(theory, terms):
    """Return the progression of the values that the sum takes in the solutions."""
    found = values_in(theory, terms)
    if found is None:
        raise NoSolution("the theory has no solution")
    return found


def solutions_within(theory, *, low, high):
    """Yield the solutions in which every value is in the bounds, in ascending order of the values."""
    theories = [theory]
    for name in theory[0][::-1]:
        theories.append(Wholes().eliminate(theories[-1], name))
    wider = theories[-2::-1]
    start = {}
    if satisfies(Wholes(), theories[-1], start):
        yield from _completions(wider, start, low, high)


def _completions(theories, values, low, high):
    """Yield the bounded solutions with these values; each theory has one name more than the one before it.

    The values can be completed to a solution, if its bounds do not matter.
    """
    if theories == []:
        yield dict(values)
        return
    names, constraints = theories[0]
    wider = theories[1:]
    for value in _values_within(fitting(constraints, names[-1], values), low, high):
        more = {**values, names[-1]: value}
        yield from _completions(wider, more, low, high)


def _values_within(steps, low, high):
    """Return the integers of the progression that are in the bounds, in ascending order."""
    modulus, rest = steps
    if modulus == 0:
        return [rest] if low <= rest <= high else []
    return list(range(low + (rest - low) % modulus, high + 1, modulus))
