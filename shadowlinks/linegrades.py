"""Grades of theories of the kind lines."""

from shadowlinks.lines import Lines


def two_names(theory):
    """Return True if constraints of at most two names are enough for the theory, otherwise False."""
    return all([len(terms) <= 2 for terms, _, _ in Lines().normal(theory)[1]])
