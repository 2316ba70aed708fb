"""Links: parts of one kind, in an order."""

from shadowlinks.dropping import items_at, needed_indices
from shadowlinks.errors import InvalidLink, InvalidPart, UnknownPart
from shadowlinks.machines import many_states
from shadowlinks.names import merge_names
from shadowlinks.parts import Part
from shadowlinks.shadows import can_be_solved, complete, part_shadow, solve
from shadowlinks.theories import join, restrict
from shadowlinks.wordpaths import first_words
from shadowlinks.words import Words


class Link:
    """A link of parts. Links never change; the operators and methods return new links."""

    def __init__(self, kind, parts):
        _check_parts(kind, parts)
        self.kind = kind
        self.parts = tuple(parts)

    @property
    def interface(self):
        """The names that at least one part shows, in ascending order."""
        lists = [part.shown for part in self.parts]
        return merge_names(*lists)

    def __len__(self):
        return len(self.parts)

    def __iter__(self):
        return iter(self.parts)

    def __contains__(self, x):
        return x in [part.name for part in self.parts]

    def __getitem__(self, at):
        for part in self.parts:
            if part.name == at:
                return part
        raise UnknownPart(at)

    def __add__(self, other):
        return Link(self.kind, [*self.parts, other])

    def __sub__(self, other):
        left = [part for part in self.parts if part.name != other]
        if len(left) == len(self.parts):
            raise UnknownPart(other)
        return Link(self.kind, left)

    def replaced(self, part):
        """Return the link with this part in the place of the part with the same name."""
        if part.name not in self:
            raise UnknownPart(part.name)
        return Link(self.kind, [part if own.name == part.name else own for own in self.parts])


def whole(link):
    """Return the whole of the link: the join of the theories of the parts, with the hidden names renamed."""
    return join([_renamed_theory(link.kind, part) for part in link.parts])


def shadows(link):
    """Return the shadows of the parts."""
    return tuple([part_shadow(link.kind, part) for part in link.parts])


def works(link):
    """Return True if the link works, otherwise False."""
    return can_be_solved(link.kind, small_theories(link.kind, link.parts, shadows(link)))


def solution(link):
    """Return the solution of the link as a new dict, or None."""
    return solution_by(link, shadows(link))


def culprits(link):
    """Return the names of the parts that remain when parts without which the others do not work are left out."""
    return culprits_by(link, shadows(link))


def bundled(link, name, *, shown):
    """Return the part with this name that stands for the link and shows the chosen names."""
    interface = link.interface
    for chosen in shown:
        if chosen not in interface:
            raise InvalidPart(chosen)
    kind = link.kind
    names, constraints = whole(link)
    hidden = [other for other in names if other not in shown]
    return Part(kind.WORD, name, shown, hidden, constraints)


def full_name(part, hidden):
    """Return the name that a hidden name of the part has in the whole of a link."""
    return f"{part.name}.{hidden}"


def small_theories(kind, parts, found):
    """Return for each part its shadow, one of those found, or its theory in the whole of a link.

    Both tell the same about the shown names. In the kind words, a shadow may need far more states than
    the machines of the part have together.
    """
    if not isinstance(kind, Words):
        return list(found)
    pairs = [(own, _renamed_theory(kind, part)) for part, own in zip(parts, found)]
    return [own if many_states(own[1]) <= many_states(theory[1]) else theory for own, theory in pairs]


def solution_by(link, found):
    """Return the solution of the link whose parts have these shadows, or None."""
    joined = join(small_theories(link.kind, link.parts, found))
    first = first_words(joined, link.interface) if isinstance(link.kind, Words) else solve(link.kind, joined)
    return None if first is None else with_hidden(link, first)


def culprits_by(link, found):
    """Return the culprits of the link whose parts have these shadows."""
    kind = link.kind
    theories = small_theories(kind, link.parts, found)
    if can_be_solved(kind, theories):
        return ()
    left = needed_indices(len(theories), lambda indices: not can_be_solved(kind, items_at(theories, indices)))
    return tuple([part.name for part in items_at(link.parts, left)])


def with_hidden(link, assignment):
    """Return the assignment of the interface with values of the hidden names of all parts."""
    values = dict(assignment)
    for part in link.parts:
        own = complete(link.kind, part.theory, restrict(assignment, part.shown))
        for name in part.hidden:
            values[full_name(part, name)] = own[name]
    return values


def _renamed_theory(kind, part):
    """Return the theory of the part with the names that the hidden ones have in the whole of a link."""
    return kind.rename(part.theory, {name: full_name(part, name) for name in part.hidden})


def _check_parts(kind, parts):
    """Raise InvalidLink for the first part with another word or with the name of an earlier part."""
    names = []
    for part in parts:
        if part.word != kind.WORD or part.name in names:
            raise InvalidLink(part.name)
        names.append(part.name)
