"""The kind bits: names have the values 0 and 1, and constraints are clauses."""

from shadowlinks.clauses import contains, least_clauses, resolvent
from shadowlinks.cuts import derive_lines
from shadowlinks.errors import NoSolution
from shadowlinks.kinds import Kind
from shadowlinks.names import is_ascending, merge_names, replace_names
from shadowlinks.primes import failing, prime_clauses
from shadowlinks.shadows import satisfies


class Bits(Kind):
    """The kind bits."""

    WORD = "bits"

    def names_in(self, constraint):
        """Return the names that the clause mentions."""
        return tuple([name for name, _ in constraint])

    def is_valid(self, names, constraint):
        """Return True if the literals ascend, have the sign 0 or 1, and mention only these names."""
        if not super().is_valid(names, constraint):
            return False
        return is_ascending(self.names_in(constraint)) and all([sign in (0, 1) for _, sign in constraint])

    def holds(self, constraint, assignment):
        """Return True if some literal has the value of its name as its sign, otherwise False."""
        return any([assignment[name] == sign for name, sign in constraint])

    def contradiction(self):
        """Return the clause without literals."""
        return ()

    def rename(self, theory, table):
        """Return the theory with other names; the literals are sorted anew."""
        names, clauses = theory
        renamed = [sorted([(table.get(name, name), sign) for name, sign in clause]) for clause in clauses]
        return merge_names(replace_names(names, table)), tuple([tuple(clause) for clause in renamed])

    def eliminate(self, theory, name):
        """Return the clauses without the name and all resolvents about it, without dispensable ones."""
        names, clauses = theory
        kept = [clause for clause in clauses if name not in self.names_in(clause)]
        first = [clause for clause in clauses if (name, 1) in clause]
        second = [clause for clause in clauses if (name, 0) in clause]
        cuts = [resolvent(one, other, name) for one in first for other in second]
        found = least_clauses([*kept, *[clause for clause in cuts if clause is not None]])
        return tuple([other for other in names if other != name]), found

    def lift(self, theory, name, assignment):
        """Return 0 if it fits, otherwise 1 if it fits."""
        for value in (0, 1):
            if satisfies(self, theory, {**assignment, name: value}):
                return value
        raise NoSolution(f"no value fits for {name}")

    def ground(self, theory):
        """Return the assignment without names if it is a solution, otherwise None."""
        return {} if satisfies(self, theory, {}) else None

    def normal(self, theory):
        """Return the theory of all clauses that follow and have no dispensable literal."""
        names, clauses = theory
        return names, tuple(sorted(prime_clauses(names, failing(names, list(clauses)))))

    def certificate(self, theory, constraint):
        """Return lines that derive a clause which the constraint contains, or None."""
        if self.counterexample(theory, constraint) is not None:
            return None
        lines = {}
        decided = {name: 1 - sign for name, sign in constraint}
        number, _ = _refute(_undecided(theory, constraint), theory[1], decided, lines)
        return tuple(list(lines)[:number + 1])

    def accepts(self, theory, constraint, certificate):
        """Return True if all lines are right and the constraint contains the clause of the last one."""
        derived = derive_lines(theory[1], certificate)
        if derived is None or derived == ():
            return False
        return contains(constraint, derived[-1])

    def counterexample(self, theory, constraint):
        """Return a solution in which the clause fails, or None."""
        decided = {name: 1 - sign for name, sign in constraint}
        return _solution(_undecided(theory, constraint), theory[1], decided)

    def pin(self, names, assignment):
        """Return one clause for each name."""
        return names, tuple([((name, assignment[name]),) for name in names])


def _undecided(theory, constraint):
    """Return the names of the theory that the constraint does not mention."""
    decided = [name for name, _ in constraint]
    return tuple([name for name in theory[0] if name not in decided])


def _fails(clause, decided):
    """Return True if the decided values make each literal of the clause fail, otherwise False."""
    return all([decided.get(name) == 1 - sign for name, sign in clause])


def _solution(names, clauses, decided):
    """Return the decided values with values of the names under which no clause fails, or None."""
    if any([_fails(clause, decided) for clause in clauses]):
        return None
    if names == ():
        return decided
    for value in (0, 1):
        found = _solution(names[1:], clauses, {**decided, names[0]: value})
        if found is not None:
            return found
    return None


def _refute(names, clauses, decided, lines):
    """Add lines for a clause that fails under the decided values; return its number and the clause.

    The dict has the lines as keys and their numbers as values, so that equal lines are kept once.
    The names are undecided, and whatever values they get, some clause fails.
    """
    for index, clause in enumerate(clauses):
        if _fails(clause, decided):
            return lines.setdefault(("given", index), len(lines)), clause
    name = names[0]
    low, first = _refute(names[1:], clauses, {**decided, name: 0}, lines)
    if (name, 1) not in first:
        return low, first
    high, second = _refute(names[1:], clauses, {**decided, name: 1}, lines)
    if (name, 0) not in second:
        return high, second
    return lines.setdefault(("cut", low, high, name), len(lines)), resolvent(first, second, name)
