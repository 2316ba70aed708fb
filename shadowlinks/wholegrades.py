"""Grades of theories of the kind wholes."""

from shadowlinks.wholes import Wholes


def equations_only(theory):
    """Return True if equations are enough for the theory, otherwise False."""
    kind = Wholes()
    names, constraints = kind.normal(theory)
    equations = tuple([constraint for constraint in constraints if constraint[1] == 0])
    return kind.normal((names, equations)) == (names, constraints)
