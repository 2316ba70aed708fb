"""From theories of the kind bits to theories of the kind rows."""

from shadowlinks.bitlists import each_solution


def rows_of_bits(theory):
    """Return the theory of the kind rows with the same solutions."""
    names, clauses = theory
    columns = [((name,), ((0,), (1,))) for name in names]
    return names, (*columns, *[_table_of(clause) for clause in clauses])


def _table_of(clause):
    """Return the table of the values for which the clause holds."""
    names = tuple([name for name, _ in clause])
    return names, tuple([tuple(values.values()) for values in each_solution((names, (clause,)))])
