"""From parities, constraints of the kind wholes, to theories of the kind bits and back."""

from shadowlinks.bitlists import each_solution
from shadowlinks.errors import InvalidConstraint
from shadowlinks.sums import Sum
from shadowlinks.wholes import Wholes


def bits_of_parities(theory):
    """Return the theory of the kind bits about the integers taken as even or odd."""
    names, constraints = theory
    for index, constraint in enumerate(constraints):
        if constraint[1] != 2 and constraint != Wholes().contradiction():
            raise InvalidConstraint(index)
    return names, tuple([clause for constraint in constraints for clause in _clauses_of(constraint)])


def parities_of_bits(theory):
    """Return the theory of the kind wholes, in normal form, of all parities that follow."""
    names = theory[0]
    solutions = list(each_solution(theory))
    if solutions == []:
        return names, (Wholes().contradiction(),)
    parities = [(((name, 1),), 2, solutions[0][name]) for name in names]
    for solution in solutions[1:]:
        parities = _still_holding(parities, solution)
    return Wholes().normal((names, tuple(parities)))


def _clauses_of(constraint):
    """Return the clauses for a parity or the contradiction, in ascending order."""
    terms, _, rest = constraint
    odd = tuple([name for name, number in terms if number % 2 == 1])
    # Without odd coefficients, there is one assignment, of no names.
    failing = [values for values in each_solution((odd, ())) if (sum(values.values()) - rest) % 2 == 1]
    return sorted([tuple([(name, 1 - values[name]) for name in odd]) for values in failing])


def _still_holding(parities, solution):
    """Return as few parities as possible from which all follow that follow from these and hold in the solution."""
    holding = [parity for parity in parities if Wholes().holds(parity, solution)]
    failing = [parity for parity in parities if not Wholes().holds(parity, solution)]
    # The sum of two parities that fail holds.
    return [*holding, *[_added(failing[0], other) for other in failing[1:]]]


def _added(first, second):
    """Return the sum of two parities with coefficients 1."""
    both = Sum(first[0]) + Sum(second[0])
    return tuple([(name, number) for name, number in both if number == 1]), 2, first[2] + second[2]
