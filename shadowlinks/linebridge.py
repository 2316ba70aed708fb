"""From theories of the kind steps to theories of the kind lines."""

from shadowlinks.sums import Sum


def lines_of_steps(theory):
    """Return the theory of the kind lines with the same constraints about fractions."""
    names, constraints = theory
    return names, tuple([_line_of(constraint) for constraint in constraints])


def _line_of(constraint):
    """Return the constraint of the kind lines for one of the kind steps."""
    x, y, c = constraint
    return Sum([(name, number) for name, number in ((x, 1), (y, -1)) if name != ""]).terms, "<=", c
