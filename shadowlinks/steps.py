"""The kind steps: names have integers as values, and constraints bound differences."""

from shadowlinks.differences import Differences
from shadowlinks.errors import NoSolution
from shadowlinks.kinds import Kind
from shadowlinks.names import merge_names, replace_names
from shadowlinks.shadows import satisfies, solve


class Steps(Kind):
    """The kind steps."""

    WORD = "steps"

    def names_in(self, constraint):
        """Return those of the first two entries that are not the empty string."""
        return tuple([side for side in constraint[:2] if side != ""])

    def is_valid(self, names, constraint):
        """Return True if both sides are different names or one or both are empty, otherwise False."""
        x, y, _ = constraint
        return super().is_valid(names, constraint) and (x != y or x == "")

    def holds(self, constraint, assignment):
        """Return True if the difference is at most the bound, otherwise False."""
        x, y, c = constraint
        return _value(x, assignment) - _value(y, assignment) <= c

    def contradiction(self):
        """Return the constraint that 0 minus 0 is at most -1."""
        return "", "", -1

    def rename(self, theory, table):
        """Return the theory with other names."""
        names, constraints = theory
        renamed = [(*replace_names([x, y], table), c) for x, y, c in constraints]
        return merge_names(replace_names(names, table)), tuple(renamed)

    def eliminate(self, theory, name):
        """Return the constraints without the name and the sums of those that meet in it."""
        names, constraints = theory
        ending = [(x, c) for x, y, c in constraints if y == name]
        beginning = [(y, c) for x, y, c in constraints if x == name]
        kept = [constraint for constraint in constraints if name not in constraint[:2]]
        sums = [(x, y, first + second) for x, first in ending for y, second in beginning]
        return tuple([other for other in names if other != name]), _tightest([*kept, *sums])

    def lift(self, theory, name, assignment):
        """Return the least value that fits, or the greatest one, or 0."""
        constraints = theory[1]
        low = [_value(x, assignment) - c for x, y, c in constraints if y == name]
        high = [_value(y, assignment) + c for x, y, c in constraints if x == name]
        value = max(low) if low != [] else min(high, default=0)
        if not satisfies(self, theory, {**assignment, name: value}):
            raise NoSolution(f"no value fits for {name}")
        return value

    def ground(self, theory):
        """Return the assignment without names if it is a solution, otherwise None."""
        return {} if satisfies(self, theory, {}) else None

    def normal(self, theory):
        """Return the theory with the greatest value of each difference."""
        return theory[0], tuple(list(Differences(theory)))

    def certificate(self, theory, constraint):
        """Return the indices of a chain or a negative ring that shows the constraint, or None."""
        x, y, c = constraint
        names, constraints = theory
        for place in ["", *names]:
            total, chain = _least_chains(constraints, place, len(names) + 1)[place]
            if total < 0:
                return chain
        found = _least_chains(constraints, x, len(names) + 1)
        if y not in found or found[y][0] > c:
            return None
        return found[y][1]

    def accepts(self, theory, constraint, certificate):
        """Return True if the certificate is a chain for the constraint or a negative ring, otherwise False."""
        x, y, c = constraint
        if certificate == ():
            return x == y and c >= 0
        if not all([0 <= index < len(theory[1]) for index in certificate]):
            return False
        chain = [theory[1][index] for index in certificate]
        if not all([before[1] == after[0] for before, after in zip(chain, chain[1:])]):
            return False
        total = sum([bound for _, _, bound in chain])
        begin, end = chain[0][0], chain[-1][1]
        return begin == end and total < 0 or (begin, end) == (x, y) and total <= c

    def counterexample(self, theory, constraint):
        """Return a solution in which the difference is above the bound, or None."""
        x, y, c = constraint
        return solve(self, (theory[0], (*theory[1], (y, x, -c - 1))))

    def pin(self, names, assignment):
        """Return an upper and a lower bound for each name."""
        pairs = [((name, "", assignment[name]), ("", name, -assignment[name])) for name in names]
        return names, tuple([constraint for pair in pairs for constraint in pair])


def _value(side, assignment):
    """Return the value of a name, or 0 for the empty string."""
    return 0 if side == "" else assignment[side]


def _tightest(constraints):
    """Return one constraint for each two sides; equal sides give the contradiction or nothing."""
    best = {}
    for x, y, c in constraints:
        if x != y:
            best[x, y] = min(c, best.get((x, y), c))
        elif c < 0:
            best["", ""] = -1
    return tuple([(x, y, best[x, y]) for x, y in best])


def _least_chains(constraints, start, rounds):
    """Return by place the least sum of a chain from the start with at most so many constraints, and this chain."""
    best = {start: (0, ())}
    for _ in range(rounds):
        longer = dict(best)
        for index, (x, y, c) in enumerate(constraints):
            if x in best and (y not in longer or best[x][0] + c < longer[y][0]):
                longer[y] = best[x][0] + c, (*best[x][1], index)
        best = longer
    return best
