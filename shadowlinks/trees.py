"""Trees of groups and of theories: connected names, messages and views."""

from shadowlinks.errors import InvalidTree
from shadowlinks.names import merge_names
from shadowlinks.shadows import shadow
from shadowlinks.theories import join


def walk(parents):
    """Yield the places, each one before its children, and these in ascending order."""
    waiting = list(range(min(1, len(parents))))
    while waiting != []:
        place = waiting.pop()
        yield place
        waiting.extend(_children(parents, place)[::-1])


def check_tree(groups, parents):
    """Raise InvalidTree with the least name whose places are not connected, if there is one."""
    name = _scattered(groups, parents)
    if name is not None:
        raise InvalidTree(name)


def join_tree(groups):
    """Return a tree in which the places of every name are connected, or None."""
    parents = [-1 for _ in groups]
    waiting = list(range(1, len(groups)))
    while waiting != []:
        joined = [place for place in range(len(groups)) if place not in waiting]
        # If edges with as many shared names as possible do not connect the places of a name, none do.
        pairs = [(-_many_shared(groups, place, other), place, other) for place in waiting for other in joined]
        _, first, parent = min(pairs)
        parents[first] = parent
        waiting.remove(first)
    return tuple(parents) if _scattered(groups, parents) is None else None


def messages(kind, theories, parents):
    """Return for each place the messages from below and from above."""
    check_tree([names for names, _ in theories], parents)
    shared = [_shared_names(theories, parents, place) for place in range(len(parents))]
    order = list(walk(parents))
    below = {}
    for place in order[::-1]:
        told = [below[child] for child in _children(parents, place)]
        below[place] = shadow(kind, join([theories[place], *told]), shown=shared[place])
    above = {}
    for place in order:
        around = []
        if place != 0:
            parent = parents[place]
            told = [below[child] for child in _children(parents, parent) if child != place]
            around = [theories[parent], above[parent], *told]
        above[place] = shadow(kind, join(around), shown=shared[place])
    return tuple([(below[place], above[place]) for place in range(len(parents))])


def views(kind, theories, parents):
    """Return for each place the shadow of the join of all theories over the names of its theory."""
    found = messages(kind, theories, parents)
    joined = []
    for place, theory in enumerate(theories):
        told = [found[child][0] for child in _children(parents, place)]
        joined.append(join([theory, found[place][1], *told]))
    return tuple([kind.normal(theory) for theory in joined])


def _children(parents, place):
    """Return the children of the place in ascending order."""
    return [child for child, parent in enumerate(parents) if parent == place]


def _scattered(groups, parents):
    """Return the least name whose places are not connected, or None."""
    for name in merge_names(*groups):
        places = [place for place, group in enumerate(groups) if name in group]
        # The highest place of each connected piece has a parent without the name.
        tops = [place for place in places if parents[place] not in places]
        if len(tops) > 1:
            return name
    return None


def _many_shared(groups, first, second):
    """Return the number of the names that two groups share."""
    return len([name for name in groups[first] if name in groups[second]])


def _shared_names(theories, parents, place):
    """Return the names of the theory at the place that the theory of its parent has, too."""
    if place == 0:
        return ()
    return tuple([name for name in theories[place][0] if name in theories[parents[place]][0]])
