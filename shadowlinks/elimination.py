"""Eliminating several names from a theory of any kind."""

from shadowlinks.words import Words, without_words


def without_names(kind, theory, names):
    """Return what is left of the theory when the names are eliminated."""
    left = theory
    waiting = list(names)
    while waiting != []:
        # Names that meet few other names come first, because what is left then stays small.
        first = min([(len(_met(kind, left, name)), name) for name in waiting])[1]
        if isinstance(kind, Words):
            # Guessing the letters of several names at once takes fewer states than one after another.
            gone = _names_of_the_same(kind, left, first, waiting)
            left = without_words(left, gone)
        else:
            gone = [first]
            left = kind.eliminate(left, first)
        waiting = [name for name in waiting if name not in gone]
    return left


def _met(kind, theory, name):
    """Return the names of the constraints that mention the name, as a dict."""
    lists = [kind.names_in(constraint) for constraint in theory[1]]
    return {other: True for mentioned in lists if name in mentioned for other in mentioned}


def _names_of_the_same(kind, theory, name, names):
    """Return the name and those of the names that only constraints with this name mention."""
    others = [kind.names_in(constraint) for constraint in theory[1]]
    elsewhere = [other for mentioned in others if name not in mentioned for other in mentioned]
    return [other for other in names if other == name or other not in elsewhere]
