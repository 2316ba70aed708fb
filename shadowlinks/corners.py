"""The corners of theories of the kind lines."""

from math import lcm

from shadowlinks.linear import normal_constraints, row_of
from shadowlinks.lines import Lines
from shadowlinks.ratios import ratio
from shadowlinks.shadows import satisfies
from shadowlinks.vectors import echelon


def corners(theory):
    """Yield the corners of the theory, each as a dict of its own, in ascending order of their values."""
    names = theory[0]
    constraints = normal_constraints(theory)
    if constraints is not None:
        for values in _ascending(_corner_values(names, constraints)):
            yield dict(zip(names, values))


def _corner_values(names, constraints):
    """Return the values of each corner once, for the constraints of a normal form."""
    width = len(names)
    equations = [row_of(names, constraint) for constraint in constraints if constraint[1] == "="]
    inequalities = [row_of(names, constraint) for constraint in constraints if constraint[1] == "<="]
    solved, _ = echelon(equations, width)
    points = {values: True for values in _meetings(solved, inequalities, width)}
    return [values for values in points if satisfies(Lines(), (names, constraints), dict(zip(names, values)))]


def _meetings(solved, rows, width):
    """Return the values at which the solved rows and as many of the rows as are needed hold as equations."""
    if len(solved) == width:
        return [tuple([ratio(solved[column][width], solved[column][column]) for column in range(width)])]
    found = []
    for at, row in enumerate(rows):
        more, _ = echelon([*list(solved.values()), row], width)
        if len(more) > len(solved):
            found.extend(_meetings(more, rows[at + 1:], width))
    return found


def _ascending(points):
    """Return the points, tuples of ratios, in the order of their values as fractions."""
    bottom = 1
    for values in points:
        for value in values:
            bottom = lcm(bottom, value[1])
    scaled = [(tuple([top * (bottom // own) for top, own in values]), values) for values in points]
    return [values for _, values in sorted(scaled)]
