"""Orders of elimination: groups of names, clusters and prices."""

from shadowlinks.names import merge_names


def groups_of(kind, theory):
    """Return for each constraint of the theory the names that it mentions, in ascending order."""
    return tuple([merge_names(kind.names_in(constraint)) for constraint in theory[1]])


def clusters(groups, order):
    """Yield for each name of the order its cluster when it is eliminated."""
    left = groups
    for name in order:
        yield _cluster(left, name)
        left = _without(left, name)


def price(groups, order):
    """Return the greatest number of names in a cluster, or 0 for an empty order."""
    return max([len(cluster) for cluster in clusters(groups, order)], default=0)


def cheapest(groups, names):
    """Return the least price of an order of the names, and the first order with this price."""
    prices = {}
    waiting = merge_names(names)
    least = _least_price(groups, waiting, prices)
    left = groups
    order = []
    while waiting != ():
        fitting = [name for name in waiting if _price_from(left, waiting, name, prices) <= least]
        order.append(fitting[0])
        left = _without(left, fitting[0])
        waiting = _others(waiting, fitting[0])
    return least, tuple(order)


def _cluster(groups, name):
    """Return the name and all names of the groups that have it, in ascending order."""
    lists = [group for group in groups if name in group]
    return merge_names((name,), *lists)


def _without(groups, name):
    """Return what is left of the groups when the name is eliminated."""
    kept = [group for group in groups if name not in group]
    return [*kept, _others(_cluster(groups, name), name)]


def _others(names, name):
    """Return the names without the name."""
    return tuple([other for other in names if other != name])


def _least_price(groups, waiting, prices):
    """Return the least price of an order of the waiting names, and keep it in the dict.

    The groups are what is left when the other names have been eliminated. In which order that was done
    makes no difference for the clusters, so the waiting names can be the key.
    """
    if waiting not in prices:
        prices[waiting] = min([_price_from(groups, waiting, name, prices) for name in waiting], default=0)
    return prices[waiting]


def _price_from(groups, waiting, name, prices):
    """Return the least price of an order of the waiting names that begins with the name."""
    later = _least_price(_without(groups, name), _others(waiting, name), prices)
    return max(len(_cluster(groups, name)), later)
