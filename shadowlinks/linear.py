"""Normal forms and elimination of theories of the kind lines."""

from shadowlinks.tableaus import Tableau, filled_tableau, follows_linear
from shadowlinks.vectors import blend, cleared, coefficients_of, common_divisor, echelon, reduced, shortened, terms_of


def row_of(names, constraint):
    """Return the coefficients of the names and the bound."""
    return [*coefficients_of(names, constraint[0]), constraint[2]]


def normal_constraints(theory):
    """Return the constraints of the normal form, or None if the theory has no solution."""
    names, constraints = theory
    tableau = filled_tableau(theory)
    if tableau.clash is not None:
        return None
    tight = []
    loose = []
    for index, constraint in enumerate(constraints):
        row = row_of(names, constraint)
        if constraint[1] == "=" or tableau.is_tight(index, constraint):
            tight.append(row)
        else:
            loose.append(row)
    equations, _ = echelon(tight, len(names))
    inequalities = _tightest([reduced(row, equations) for row in loose])
    needed = _needed(names, [_constraint_of(names, row, "<=") for row in inequalities])
    solved = [_constraint_of(names, equations[column], "=") for column in equations]
    return tuple(sorted([*solved, *needed]))


def constraints_without(theory, name):
    """Return constraints over the other names of the theory that have the same solutions, restricted to these."""
    names, constraints = theory
    column = names.index(name)
    equations = [row_of(names, constraint) for constraint in constraints if constraint[1] == "="]
    inequalities = [row_of(names, constraint) for constraint in constraints if constraint[1] == "<="]
    solved = [row for row in equations if row[column] != 0]
    if solved != []:
        lead = solved[0] if solved[0][column] > 0 else [-number for number in solved[0]]
        equations = [cleared(row, lead, column) for row in equations]
        inequalities = [cleared(row, lead, column) for row in inequalities]
    else:
        inequalities = _combined(inequalities, column)
    found = [
        *[_constraint_of(names, shortened(row), "=") for row in equations if any(row)],
        *[_constraint_of(names, row, "<=") for row in _tightest(inequalities)],
    ]
    return tuple(found)


def _constraint_of(names, row, sign):
    """Return the constraint for the coefficients of the names and the bound."""
    return terms_of(names, row), sign, row[-1]


def _combined(rows, column):
    """Return the inequalities that follow from the inequalities and are 0 in the column."""
    above = [row for row in rows if row[column] > 0]
    below = [row for row in rows if row[column] < 0]
    kept = [row for row in rows if row[column] == 0]
    return [*kept, *[blend(row, -other[column], other, row[column]) for row in above for other in below]]


def _tightest(rows):
    """Return the inequalities without those that hold everywhere and without looser parallel ones."""
    best = {}
    for row in rows:
        divisor = common_divisor(row[:-1])
        if divisor != 0 or row[-1] < 0:
            direction = tuple([number // max(divisor, 1) for number in row[:-1]])
            if direction not in best or row[-1] * best[direction][1] < best[direction][0] * divisor:
                best[direction] = row[-1], divisor
    return [shortened([*[n * best[key][1] for n in key], best[key][0]]) for key in best]


def _needed(names, constraints):
    """Return those of the inequalities that do not follow from the other ones; one of them follows from none."""
    tableau = Tableau(names)
    kept = []
    for index, constraint in enumerate(constraints):
        if not follows_linear(tableau, constraint):
            tableau.limit(index, constraint)
            kept.append(constraint)
    for constraint in list(kept):
        others = [other for other in kept if other != constraint]
        if follows_linear(filled_tableau((names, others)), constraint):
            kept = others
    return kept
