"""The greatest differences between the names of theories of the kind steps."""

from shadowlinks.errors import NoSolution


class Differences:
    """What a theory of the kind steps says about all differences. The object never changes."""

    def __init__(self, theory):
        names, constraints = theory
        self._theory = theory
        self._greatest = _least_sums(["", *names], constraints)
        self._satisfiable = all([self._greatest[x, x] >= 0 for x in ["", *names]])
        self._rows = _normal_rows(self._greatest) if self._satisfiable else (("", "", -1),)

    @property
    def satisfiable(self):
        """True if the theory has a solution, otherwise False."""
        return self._satisfiable

    @property
    def lowest(self):
        """The solution with the least value of each name, or None."""
        found = {name: self._greatest.get(("", name)) for name in self._theory[0]}
        if not self._satisfiable or None in list(found.values()):
            return None
        return {name: -found[name] for name in found}

    @property
    def highest(self):
        """The solution with the greatest value of each name, or None."""
        found = {name: self._greatest.get((name, "")) for name in self._theory[0]}
        if not self._satisfiable or None in list(found.values()):
            return None
        return found

    def __len__(self):
        return len(self._rows)

    def __iter__(self):
        return iter(self._rows)

    def __getitem__(self, at):
        x, y = at
        if not self._satisfiable:
            raise NoSolution("the theory has no solution")
        return self._greatest.get((x, y))

    def __contains__(self, x):
        first, second, bound = x
        if not self._satisfiable:
            return True
        greatest = self._greatest.get((first, second))
        return greatest is not None and greatest <= bound

    def __add__(self, other):
        names, constraints = self._theory
        return Differences((names, (*constraints, other)))


def _least_sums(places, constraints):
    """Return the least sum of a chain between any two places; without a chain there is no key."""
    sums = {(x, x): 0 for x in places}
    for x, y, c in constraints:
        sums[x, y] = min(c, sums.get((x, y), c))
    for middle in places:
        for x in places:
            for y in places:
                if (x, middle) in sums and (middle, y) in sums:
                    around = sums[x, middle] + sums[middle, y]
                    sums[x, y] = min(around, sums.get((x, y), around))
    return sums


def _normal_rows(sums):
    """Return the constraints of the normal form, in ascending order."""
    return tuple(sorted([(x, y, sums[x, y]) for x, y in sums if x != y]))
