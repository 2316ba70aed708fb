"""Joining and widening theories, and restricting assignments."""

from shadowlinks.names import merge_names


def join(theories):
    """Return the theory with the names and the constraints of all theories."""
    lists = [names for names, _ in theories]
    constraints = [constraint for _, group in theories for constraint in group]
    return merge_names(*lists), tuple(constraints)


def widen(theory, *names):
    """Return the theory with its own names and the given ones."""
    own, constraints = theory
    return merge_names(own, names), constraints


def restrict(assignment, names):
    """Return a new dict with the values of the names, and the ground if there is one."""
    kept = {name: assignment[name] for name in names}
    if "" in assignment:
        kept[""] = assignment[""]
    return kept
