"""The clauses that follow from clauses and from which no literal can be dropped.

The assignments of some names are numbered: the values, in the order of the names, are the binary
digits of the number, the first one the highest. A set of assignments is an integer whose binary
digit with the number of an assignment tells whether the assignment is in the set.
"""


def failing(names, clauses):
    """Return the set of the assignments of the names under which one of the clauses fails."""
    if () in clauses:
        return everything(names)
    if clauses == []:
        return 0
    low = failing(names[1:], when_decided(clauses, names[0], 0))
    high = failing(names[1:], when_decided(clauses, names[0], 1))
    return low | high << _half(names)


def prime_clauses(names, fails):
    """Return the clauses over the names that fail in no assignment outside the set, without dispensable literals."""
    if fails == 0:
        return []
    if fails == everything(names):
        return [()]
    half = _half(names)
    low = fails & ((1 << half) - 1)
    high = fails >> half
    both = {clause: True for clause in prime_clauses(names[1:], low & high)}
    # A clause with the literal (name, 1) fails only where the name is 0, so it must not follow without it.
    if_low = [clause for clause in prime_clauses(names[1:], low) if clause not in both]
    if_high = [clause for clause in prime_clauses(names[1:], high) if clause not in both]
    name = names[0]
    return [*both, *[((name, 1), *clause) for clause in if_low], *[((name, 0), *clause) for clause in if_high]]


def everything(names):
    """Return the set of all assignments of the names."""
    return (1 << (1 << len(names))) - 1


def when_decided(clauses, name, value):
    """Return what is left of the clauses when the name has the value."""
    left = [clause for clause in clauses if (name, value) not in clause]
    return [tuple([literal for literal in clause if literal[0] != name]) for clause in left]


def _half(names):
    """Return the number of the assignments in which the first name is 0."""
    return 1 << (len(names) - 1)
