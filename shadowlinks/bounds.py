"""The greatest and the least values of sums in theories of the kind lines."""

from shadowlinks.errors import NoSolution
from shadowlinks.ratios import ratio
from shadowlinks.tableaus import filled_tableau


def greatest(theory, terms):
    """Return the greatest value of the sum in the solutions, or None if it has none."""
    return _greatest(_satisfiable_tableau(theory), terms)


def least(theory, terms):
    """Return the least value of the sum in the solutions, or None if it has none."""
    return _least(_satisfiable_tableau(theory), terms)


def span(theory, *, terms):
    """Return the pair of the least and the greatest value."""
    tableau = _satisfiable_tableau(theory)
    return _least(tableau, terms), _greatest(tableau, terms)


def _satisfiable_tableau(theory):
    """Return the tableau of the theory; without a solution there is none."""
    tableau = filled_tableau(theory)
    if tableau.clash is not None:
        raise NoSolution("the theory has no solution")
    return tableau


def _greatest(tableau, terms):
    """Return the greatest value of the sum at the points of the tableau, or None."""
    found = tableau.summit(terms)
    return None if found is None else ratio(found[0], found[1])


def _least(tableau, terms):
    """Return the least value of the sum at the points of the tableau, or None."""
    found = tableau.summit([(name, -number) for name, number in terms])
    return None if found is None else ratio(-found[0], found[1])
