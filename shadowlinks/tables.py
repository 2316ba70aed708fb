"""Tables, the constraints of the kind rows: joining them, dropping columns and deciding values."""

from shadowlinks.names import merge_names


def join_tables(first, second):
    """Return the table over the names of both whose rows are made of a row of each."""
    names, table = first
    others, rows = second
    merged = merge_names(names, others)
    shared = [name for name in names if name in others]
    groups = {}
    for row in rows:
        groups.setdefault(_values_of(others, row, shared), []).append(row)
    both = [*names, *others]
    # A shared name has the same value in both rows, so its first place will do.
    places = [both.index(name) for name in merged]
    pairs = [[*row, *other] for row in table for other in groups.get(_values_of(names, row, shared), [])]
    return merged, tuple(sorted([tuple([pair[place] for place in places]) for pair in pairs]))


def drop_column(constraint, name):
    """Return the table without the column of the name."""
    names, table = constraint
    at = names.index(name)
    rows = sorted(set([(*row[:at], *row[at + 1:]) for row in table]))
    return (*names[:at], *names[at + 1:]), tuple(rows)


def can_hold(constraint, decided):
    """Return True if some row of the table agrees with the decided values, otherwise False."""
    return agreeing(constraint, decided)[1] != ()


def agreeing(constraint, decided):
    """Return the table with those rows only that agree with the decided values."""
    names, table = constraint
    wanted = [(names.index(name), decided[name]) for name in names if name in decided]
    return names, tuple([row for row in table if all([row[at] == value for at, value in wanted])])


def rearranged(constraint, table):
    """Return the table with other names, its columns and rows sorted anew; the dict has the new names."""
    names, rows = constraint
    renamed = [table.get(name, name) for name in names]
    places = [renamed.index(name) for name in merge_names(renamed)]
    return merge_names(renamed), tuple(sorted([tuple([row[place] for place in places]) for row in rows]))


def _values_of(names, row, wanted):
    """Return the values of the wanted names in a row of the names."""
    return tuple([row[names.index(name)] for name in wanted])
