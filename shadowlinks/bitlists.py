"""The solutions of theories of the kind bits, one after another."""

from shadowlinks.primes import when_decided


def each_solution(theory):
    """Yield the solutions, each as a new dict, in ascending order of their values."""
    names, clauses = theory
    yield from _extended(names, clauses, {})


def _extended(names, clauses, values):
    """Yield the solutions of the clauses over the names, each one with the values."""
    if () in clauses:
        return
    if names == ():
        yield values
        return
    for value in (0, 1):
        left = when_decided(clauses, names[0], value)
        yield from _extended(names[1:], left, {**values, names[0]: value})
