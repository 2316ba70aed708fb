"""The kind lines: names have fractions as values, and constraints are linear equations and inequalities."""

from shadowlinks.errors import NoSolution
from shadowlinks.kinds import Kind
from shadowlinks.linear import constraints_without, normal_constraints
from shadowlinks.names import merge_names, replace_names
from shadowlinks.points import pinned
from shadowlinks.ratios import is_below, quotient, ratio_at, total
from shadowlinks.sums import Sum, is_terms
from shadowlinks.tableaus import filled_tableau


class Lines(Kind):
    """The kind lines."""

    WORD = "lines"
    SIGNS = ("<=", "=")

    def names_in(self, constraint):
        """Return the names of the terms."""
        return tuple([name for name, _ in constraint[0]])

    def is_valid(self, names, constraint):
        """Return True if the terms and the sign are right and mention only these names, otherwise False."""
        terms, sign, _ = constraint
        return super().is_valid(names, constraint) and is_terms(terms) and sign in self.SIGNS

    def holds(self, constraint, assignment):
        """Return True if the sum is at most the bound, or equal to it, otherwise False."""
        terms, sign, bound = constraint
        value = ratio_at(terms, assignment)
        return value == (bound, 1) or sign == "<=" and is_below(value, (bound, 1))

    def contradiction(self):
        """Return the constraint that the sum of no terms is at most -1."""
        return (), "<=", -1

    def rename(self, theory, table):
        """Return the theory with other names; the terms are sorted anew."""
        names, constraints = theory
        renamed = [(Sum(terms).renamed(table).terms, sign, bound) for terms, sign, bound in constraints]
        return merge_names(replace_names(names, table)), tuple(renamed)

    def eliminate(self, theory, name):
        """Return a theory over the other names; if it would have more constraints, its normal form."""
        others = tuple([other for other in theory[0] if other != name])
        fewer = others, constraints_without(theory, name)
        return fewer if len(fewer[1]) <= len(theory[1]) else self.normal(fewer)

    def lift(self, theory, name, assignment):
        """Return the least value that fits, or the greatest one, or 0."""
        low, high = None, None
        for terms, sign, bound in theory[1]:
            number = Sum(terms)[name]
            if number != 0:
                others = [term for term in terms if term[0] != name]
                room = total((bound, 1), ratio_at([(other, -its) for other, its in others], assignment))
                value = quotient(room, (number, 1))
                if number < 0 or sign == "=":
                    low = value if low is None or is_below(low, value) else low
                elif high is None or is_below(value, high):
                    high = value
        if low is None:
            low = (0, 1) if high is None else high
        if not self._all_hold(theory, {**assignment, name: low}):
            raise NoSolution(f"no value fits for {name}")
        return low

    def ground(self, theory):
        """Return the assignment without names if it is a solution, otherwise None."""
        return {} if self._all_hold(theory, {}) else None

    def normal(self, theory):
        """Return the theory of the equations and the indispensable inequalities that follow."""
        found = normal_constraints(theory)
        return theory[0], (self.contradiction(),) if found is None else found

    def certificate(self, theory, constraint):
        """Return one or two pairs of a scale and weights that show the constraint, or None."""
        tableau = filled_tableau(theory)
        pairs = []
        for terms, bound in _inequalities(constraint):
            if tableau.clash is not None:
                scale, weights = 0, tableau.clash
            else:
                found = tableau.summit(terms)
                if found is None or found[0] > bound * found[1]:
                    return None
                _, scale, weights = found
            pairs.append((scale, tuple([weights.get(index, 0) for index in range(len(theory[1]))])))
        return tuple(pairs)

    def accepts(self, theory, constraint, certificate):
        """Return True if there is a right pair for each inequality of the constraint, otherwise False."""
        wanted = _inequalities(constraint)
        if len(certificate) != len(wanted):
            return False
        return all([_is_right(theory[1], terms, bound, pair) for (terms, bound), pair in zip(wanted, certificate)])

    def counterexample(self, theory, constraint):
        """Return a solution in which the constraint fails, or None."""
        names, constraints = theory
        tableau = filled_tableau(theory)
        if tableau.clash is not None:
            return None
        for terms, bound in _inequalities(constraint):
            found = tableau.summit(terms)
            if found is None:
                beyond = (-Sum(terms)).terms, "<=", -bound - 1
                return filled_tableau((names, (*constraints, beyond))).point()
            if found[0] > bound * found[1]:
                return tableau.point()
        return None

    def pin(self, names, assignment):
        """Return one equation for each name."""
        return names, tuple([pinned(name, assignment[name]) for name in names])

    def _all_hold(self, theory, assignment):
        """Return True if all constraints of the theory hold, otherwise False."""
        # The function of shadows that does the same cannot be imported: shadows imports this class.
        return all([self.holds(constraint, assignment) for constraint in theory[1]])


def _inequalities(constraint):
    """Return for each inequality of which the constraint consists the terms and the bound."""
    terms, sign, bound = constraint
    if sign == "<=":
        return [(terms, bound)]
    return [(terms, bound), ((-Sum(terms)).terms, -bound)]


def _is_right(constraints, terms, bound, pair):
    """Return True if the scale and the weights show that the sum is at most the bound, otherwise False."""
    scale, weights = pair
    if scale < 0 or len(weights) != len(constraints):
        return False
    added, limit = Sum(), 0
    for (own, sign, room), weight in zip(constraints, weights):
        if weight < 0 and sign == "<=":
            return False
        added = added + Sum(own) * weight
        limit = limit + room * weight
    if scale == 0:
        return added.terms == () and limit < 0
    return added.terms == (scale * Sum(terms)).terms and limit <= scale * bound
