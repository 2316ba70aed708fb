"""Clauses, the constraints of the kind bits: containing, resolvents and least ones."""


def contains(first, second):
    """Return True if every literal of the second clause is one of the first, otherwise False."""
    return all([literal in first for literal in second])


def resolvent(first, second, name):
    """Return the resolvent of two clauses that can be cut about the name, or None."""
    kept = [literal for literal in first if literal != (name, 1)]
    other = [literal for literal in second if literal != (name, 0)]
    literals = sorted(set([*kept, *other]))
    if len(set([own for own, _ in literals])) < len(literals):
        return None
    return tuple(literals)


def least_clauses(clauses):
    """Return the clauses that contain no other one of them, in ascending order."""
    single = sorted(set(clauses))
    return tuple([clause for clause in single if _is_least(clause, single)])


def _is_least(clause, clauses):
    """Return True if the clause contains none of the clauses but itself, otherwise False."""
    return not any([contains(clause, other) for other in clauses if other != clause])
