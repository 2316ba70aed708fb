"""Where the parts of a link meet: orders and trees of links, filling in, deciding and nesting."""

from shadowlinks.links import Link, bundled, shadows, small_theories, whole, with_hidden
from shadowlinks.orders import cheapest, groups_of
from shadowlinks.shadows import shadow
from shadowlinks.theories import join
from shadowlinks.trees import join_tree


def cheapest_shadow(kind, theory, *, shown):
    """Return the least price of eliminating the other names, the first order with it, and the shadow."""
    hidden = tuple([name for name in theory[0] if name not in shown])
    least, order = cheapest(groups_of(kind, theory), hidden)
    return least, order, shadow(kind, theory, shown=shown)


def link_tree(link):
    """Return a tree of the parts in which the places of every shown name are connected, or None."""
    return join_tree([part.shown for part in link.parts])


def part_views(link):
    """Return for each part the shadow of the whole over its shown names."""
    joined = join(small_theories(link.kind, link.parts, shadows(link)))
    return tuple([shadow(link.kind, joined, shown=part.shown) for part in link.parts])


def fill_in(link, assignment):
    """Return the assignment of the interface with values of the hidden names."""
    return with_hidden(link, assignment)


def decide(link, constraint):
    """Return True and a certificate for the whole, or False and a solution of it in which the constraint fails."""
    theory = whole(link)
    certificate = link.kind.certificate(theory, constraint)
    if certificate is not None:
        return True, certificate
    return False, link.kind.counterexample(theory, constraint)


def nested(link, *teams):
    """Return the link of a bundle for each team."""
    bundles = []
    for name, members in teams:
        inside = [part for part in link.parts if part.name in members]
        outside = [part for part in link.parts if part.name not in members]
        elsewhere = [shown for part in outside for shown in part.shown]
        team = Link(link.kind, inside)
        bundles.append(bundled(team, name, shown=[shown for shown in team.interface if shown in elsewhere]))
    # A bundle raises an error if the name of its team is no plain name; two of one name meet only here.
    return Link(link.kind, bundles)
