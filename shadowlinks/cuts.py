"""Certificates of the kind bits: lines that stand for clauses."""

from shadowlinks.clauses import resolvent


def derive_lines(clauses, certificate):
    """Return the clauses for which the lines of the certificate stand, or None if a line is not right."""
    derived = []
    for line in certificate:
        clause = _derived(clauses, derived, line)
        if clause is None:
            return None
        derived.append(clause)
    return tuple(derived)


def _derived(clauses, before, line):
    """Return the clause for which the line stands behind the clauses of the lines before it, or None."""
    if line[0] == "given":
        return _clause_at(clauses, line[1])
    _, i, j, name = line
    first = _clause_at(before, i)
    second = _clause_at(before, j)
    if first is None or second is None:
        return None
    if (name, 1) not in first or (name, 0) not in second:
        return None
    return resolvent(first, second, name)


def _clause_at(clauses, index):
    """Return the clause with the index, or None if there is none; a negative integer is no index."""
    return clauses[index] if 0 <= index < len(clauses) else None
