"""From theories of the kind bits to theories of the kind words."""

from shadowlinks.bitlists import each_solution
from shadowlinks.bits import Bits

GROUND_IS_1 = ((), ((1,), (-1,)), (0, 1))


def words_of_bits(theory):
    """Return the theory of the kind words whose solutions have one letter for each value."""
    names, clauses = theory
    return names, (GROUND_IS_1, *[_machine_of(clause) for clause in clauses])


def _machine_of(clause):
    """Return the machine that reads one column, one of those for which the clause holds."""
    names = tuple([name for name, _ in clause])
    # The solutions of no clause ascend as the columns do.
    columns = list(each_solution((names, ())))
    start = [1 if Bits().holds(clause, values) else -1 for values in columns]
    return names, (tuple(start), tuple([-1 for _ in columns])), (0, 1)
