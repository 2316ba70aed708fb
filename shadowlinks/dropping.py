"""Leaving out what is not needed, one after another."""


def needed_indices(count, suffices, *, backwards=False):
    """Return the indices from 0 that are left, in ascending order, when each one is visited once.

    A visited index is dropped if the function says that the others suffice, without those that were
    dropped before.
    """
    order = list(range(count))
    left = list(range(count))
    for index in order[::-1] if backwards else order:
        others = [other for other in left if other != index]
        if suffices(others):
            left = others
    return tuple(left)


def items_at(items, indices):
    """Return a list of the items at the indices."""
    return [items[index] for index in indices]
