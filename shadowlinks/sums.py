"""Sums of names with integer coefficients."""

from shadowlinks.names import is_ascending


def is_terms(terms):
    """Return True if the names ascend and no coefficient is 0, otherwise False."""
    return is_ascending([name for name, _ in terms]) and all([number != 0 for _, number in terms])


class Sum:
    """A sum of names with coefficients. Sums never change; the operators return new sums."""

    def __init__(self, terms=()):
        self.terms = _added(terms)

    def __len__(self):
        return len(self.terms)

    def __iter__(self):
        return iter(self.terms)

    def __contains__(self, x):
        return x in [name for name, _ in self.terms]

    def __getitem__(self, at):
        return dict(self.terms).get(at, 0)

    def __add__(self, other):
        return Sum([*self.terms, *other.terms])

    def __sub__(self, other):
        return Sum([*self.terms, *[(name, -number) for name, number in other.terms]])

    def __neg__(self):
        return Sum([(name, -number) for name, number in self.terms])

    def __mul__(self, other):
        return Sum([(name, number * other) for name, number in self.terms])

    def __rmul__(self, other):
        return Sum([(name, number * other) for name, number in self.terms])

    def at(self, assignment):
        """Return the sum of the coefficients times the values."""
        return sum([number * assignment[name] for name, number in self.terms])

    def renamed(self, table):
        """Return the sum in which each name that is a key of the dict is replaced by its value."""
        return Sum([(table.get(name, name), number) for name, number in self.terms])


def _added(terms):
    """Return the terms in ascending order of the names, with the coefficients of each name added."""
    found = {}
    for name, number in terms:
        found[name] = found.get(name, 0) + number
    return tuple([(name, found[name]) for name in sorted(found) if found[name] != 0])
