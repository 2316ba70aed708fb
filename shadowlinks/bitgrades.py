"""Grades of theories of the kind bits: operations that make solutions of solutions."""

from shadowlinks.bitlists import each_solution
from shadowlinks.bits import Bits
from shadowlinks.paritybridge import bits_of_parities, parities_of_bits

GRADES = ("meet", "join", "pairs", "sums")
# How many of the literals that `_counted` returns the clauses of a theory with the grade may have.
MOST = {"meet": 1, "join": 1, "pairs": 2}


def combine(grade, *assignments):
    """Return what the operation of the grade makes of the assignments, a new dict."""
    return {name: _made(grade, [values[name] for values in assignments]) for name in assignments[0]}


def bit_grades(theory):
    """Return the grades of the theory."""
    return tuple([grade for grade in GRADES if breach(theory, grade=grade) is None])


def breach(theory, *, grade):
    """Return solutions of which the operation of the grade makes no solution, or None."""
    return _odd_breach(theory) if grade == "sums" else _crowded_breach(theory, grade)


def envelope(theory, *, grade):
    """Return the normal form of the theory with the fewest solutions that has the grade and all solutions."""
    if grade == "sums":
        return Bits().normal(bits_of_parities(parities_of_bits(theory)))
    names, clauses = Bits().normal(theory)
    return names, tuple([clause for clause in clauses if len(_counted(clause, grade)) <= MOST[grade]])


def _made(grade, values):
    """Return what the operation of the grade makes of the values of one name."""
    match grade:
        case "meet":
            return min(values)
        case "join":
            return max(values)
        case "pairs":
            return 1 if 2 * sum(values) > len(values) else 0
        case _:
            return sum(values) % 2


def _counted(clause, grade):
    """Return the literals of the clause of which a theory with the grade allows only few in a clause."""
    match grade:
        case "meet":
            return [literal for literal in clause if literal[1] == 1]
        case "join":
            return [literal for literal in clause if literal[1] == 0]
        case _:
            return list(clause)


def _crowded_breach(theory, grade):
    """Return a breach of a grade other than sums, or None."""
    kind = Bits()
    for clause in kind.normal(theory)[1]:
        crowd = _counted(clause, grade)[:MOST[grade] + 1]
        if len(crowd) > MOST[grade]:
            # In each of the solutions, another literal of the crowd alone makes the clause hold.
            return tuple([kind.counterexample(theory, _without(clause, literal)) for literal in crowd])
    return None


def _without(clause, literal):
    """Return the clause without the literal."""
    return tuple([other for other in clause if other != literal])


def _odd_breach(theory):
    """Return a breach of the grade sums, or None."""
    solutions = list(each_solution(theory))
    known = {_values_of(solution): True for solution in solutions}
    # The sums of an odd number of the solutions that were met; they have been found to be solutions.
    reached = {}
    for solution in solutions:
        if _values_of(solution) not in reached:
            for other in list(reached.values()):
                third = combine("sums", solutions[0], solution, other)
                if _values_of(third) not in known:
                    return solutions[0], solution, other
                reached[_values_of(third)] = third
            reached[_values_of(solution)] = solution
    return None


def _values_of(solution):
    """Return the values of the solution as a tuple."""
    return tuple(solution.values())
