"""Comparing parts, leaving out what is not needed, and middles of theories that clash."""

from shadowlinks.dropping import items_at, needed_indices
from shadowlinks.errors import InvalidPart
from shadowlinks.parts import Part
from shadowlinks.shadows import can_be_solved, follows, implies, part_shadow, shadow
from shadowlinks.theories import join, widen


def works_in(kind, part, theory):
    """Return True if the part works in the theory as its surrounding, otherwise False."""
    return can_be_solved(kind, [part_shadow(kind, part), theory])


def compare(kind, first, second):
    """Return how the second part compares with the first one."""
    _check_shown(first, second)
    one, other = part_shadow(kind, first), part_shadow(kind, second)
    if implies(kind, one, other):
        return "alike" if implies(kind, other, one) else "wider"
    return "narrower" if implies(kind, other, one) else "apart"


def surrounding(kind, first, second):
    """Return a theory in which the first part works and the second one does not, or None."""
    _check_shown(first, second)
    one = part_shadow(kind, first)
    for constraint in part_shadow(kind, second)[1]:
        if not follows(kind, one, constraint):
            return kind.pin(one[0], kind.counterexample(one, constraint))
    return None


def least_surrounding(kind, first, second):
    """Return such a theory without constraints that can be dropped, or None."""
    found = surrounding(kind, first, second)
    if found is None:
        return None
    names, constraints = found
    other = part_shadow(kind, second)
    left = needed_indices(
        len(constraints), lambda indices: not can_be_solved(kind, [other, (names, items_at(constraints, indices))])
    )
    return names, tuple(items_at(constraints, left))


def flattened(kind, part):
    """Return the flat part of the part."""
    return Part(part.word, part.name, part.shown, (), part_shadow(kind, part)[1])


def alike_families(kind, parts):
    """Return the families of the parts."""
    families = {}
    for index, part in enumerate(parts):
        # Normal forms are equal exactly if the names and the solutions are.
        families.setdefault(part_shadow(kind, part), []).append(index)
    return tuple([tuple(indices) for indices in families.values()])


def idle_names(kind, part):
    """Return the shown names on which the solutions of the shadow do not depend."""
    found = part_shadow(kind, part)
    return tuple([name for name in part.shown if _is_idle(kind, found, name)])


def silent(kind, part):
    """Return the indices of the constraints without which the part has the same shadow."""
    found = part_shadow(kind, part)
    places = list(range(len(part)))
    pairs = [(index, [other for other in places if other != index]) for index in places]
    return tuple([index for index, others in pairs if _shadow_by(kind, part, others) == found])


def core(kind, part, *, backwards=False):
    """Return the part without constraints that can be dropped one after another."""
    found = part_shadow(kind, part)
    left = needed_indices(
        len(part), lambda indices: _shadow_by(kind, part, indices) == found, backwards=backwards
    )
    return part.with_constraints(items_at(part.constraints, left))


def reasons(kind, theory, constraint, *, backwards=False):
    """Return the indices of constraints from which the constraint follows, or None."""
    if not follows(kind, theory, constraint):
        return None
    names, constraints = theory
    return needed_indices(
        len(constraints), lambda indices: follows(kind, (names, tuple(items_at(constraints, indices))), constraint),
        backwards=backwards,
    )


def middle(kind, first, second):
    """Return the middle of two theories that clash, or None."""
    if can_be_solved(kind, [first, second]):
        return None
    return shadow(kind, first, shown=[name for name in first[0] if name in second[0]])


def middles(kind, *theories):
    """Return the middles of the list of theories if it clashes, otherwise None."""
    if can_be_solved(kind, theories):
        return None
    found = []
    told = (), ()
    for index, theory in enumerate(theories[:-1]):
        later = [name for names, _ in theories[index + 1:] for name in names]
        # What the earlier theories tell about names of later ones is in the middle before.
        joined = join([told, theory])
        told = shadow(kind, joined, shown=[name for name in joined[0] if name in later])
        found.append(told)
    return tuple(found)


def _check_shown(first, second):
    """Raise InvalidPart with the least name that only one of the parts shows, if there is one."""
    for name in sorted([*first.shown, *second.shown]):
        if name not in first or name not in second:
            raise InvalidPart(name)


def _is_idle(kind, theory, name):
    """Return True if the solutions of the theory, which is a normal form, do not depend on the name."""
    others = shadow(kind, theory, shown=[other for other in theory[0] if other != name])
    return kind.normal(widen(others, name)) == theory


def _shadow_by(kind, part, indices):
    """Return the shadow of the part with the constraints at the indices only."""
    return part_shadow(kind, part.with_constraints(items_at(part.constraints, indices)))
