"""The kind wholes: names have integers as values, and constraints are equations and congruences."""

from shadowlinks.errors import NoSolution
from shadowlinks.kinds import Kind
from shadowlinks.lattices import Lattice, values_in
from shadowlinks.names import merge_names, replace_names
from shadowlinks.progressions import meet, solve_one
from shadowlinks.shadows import satisfies, solve
from shadowlinks.sums import Sum, is_terms


class Wholes(Kind):
    """The kind wholes."""

    WORD = "wholes"

    def names_in(self, constraint):
        """Return the names of the terms."""
        return tuple([name for name, _ in constraint[0]])

    def is_valid(self, names, constraint):
        """Return True if the terms and the modulus are right and mention only these names, otherwise False."""
        terms, modulus, _ = constraint
        return super().is_valid(names, constraint) and is_terms(terms) and modulus >= 0

    def holds(self, constraint, assignment):
        """Return True if the sum equals the rest, up to multiples of the modulus, otherwise False."""
        terms, modulus, rest = constraint
        return _is_multiple(Sum(terms).at(assignment) - rest, modulus)

    def contradiction(self):
        """Return the constraint that the sum of no terms equals 1."""
        return (), 0, 1

    def rename(self, theory, table):
        """Return the theory with other names; the terms are sorted anew."""
        names, constraints = theory
        renamed = [(Sum(terms).renamed(table).terms, modulus, rest) for terms, modulus, rest in constraints]
        return merge_names(replace_names(names, table)), tuple(renamed)

    def eliminate(self, theory, name):
        """Return the theory of what follows about the other names, by solving for the name first."""
        others = tuple([other for other in theory[0] if other != name])
        lattice = Lattice((name, *others), theory[1])
        if lattice.clash is not None:
            return others, (self.contradiction(),)
        return others, tuple([found for found in lattice.normal_form() if name not in self.names_in(found)])

    def lift(self, theory, name, assignment):
        """Return the least value that fits and is not negative, or the greatest one."""
        found = fitting(theory[1], name, assignment)
        if found is None:
            raise NoSolution(f"no value fits for {name}")
        return found[1]

    def ground(self, theory):
        """Return the assignment without names if it is a solution, otherwise None."""
        return {} if satisfies(self, theory, {}) else None

    def normal(self, theory):
        """Return the theory of the equations and congruences of the normal form."""
        lattice = Lattice(theory[0], theory[1])
        if lattice.clash is not None:
            return theory[0], (self.contradiction(),)
        return theory[0], tuple(sorted(lattice.normal_form()))

    def certificate(self, theory, constraint):
        """Return a divisor, a scale and weights that show the constraint, or None."""
        return Lattice(theory[0], theory[1]).certificate_for(constraint)

    def accepts(self, theory, constraint, certificate):
        """Return True if the certificate is right for the constraint, otherwise False."""
        divisor, scale, weights = certificate
        if min(divisor, scale) < 0 or divisor + scale == 0 or len(weights) != len(theory[1]):
            return False
        added, added_rest = Sum(), 0
        for (terms, modulus, rest), weight in zip(theory[1], weights):
            if not _is_multiple(weight * modulus, divisor):
                return False
            added = added + Sum(terms) * weight
            added_rest = added_rest + rest * weight
        terms, modulus, rest = constraint
        if not all([_is_multiple(number, divisor) for _, number in added - scale * Sum(terms)]):
            return False
        if scale == 0:
            return not _is_multiple(added_rest, divisor)
        return divisor in (0, scale * modulus) and _is_multiple(added_rest - scale * rest, divisor)

    def counterexample(self, theory, constraint):
        """Return a solution in which the constraint fails, or None."""
        names, constraints = theory
        first = solve(self, theory)
        if first is None or not self.holds(constraint, first):
            return first
        terms = constraint[0]
        # If the next value of the sum keeps the constraint, too, all values do.
        value = Sum(terms).at(first) + values_in(theory, terms)[0]
        found = solve(self, (names, (*constraints, (terms, 0, value))))
        return None if self.holds(constraint, found) else found

    def pin(self, names, assignment):
        """Return one equation for each name."""
        return names, tuple([(((name, 1),), 0, assignment[name]) for name in names])


def fitting(constraints, name, assignment):
    """Return the progression of the values of the name that fit the assignment of the other names, or None."""
    found = []
    for terms, modulus, rest in constraints:
        others = [term for term in terms if term[0] != name]
        one = solve_one(Sum(terms)[name], modulus, rest - Sum(others).at(assignment))
        if one is None:
            return None
        found.append(one)
    return meet(*found)


def _is_multiple(number, modulus):
    """Return True if the number is a multiple of the modulus, otherwise False; of 0, only 0 is a multiple."""
    return number == 0 if modulus == 0 else number % modulus == 0
