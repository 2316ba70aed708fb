"""Parts: shown names, hidden names and constraints about both."""

from shadowlinks.errors import InvalidName, InvalidPart
from shadowlinks.names import is_full_name, is_name, merge_names


class Part:
    """A part of a link. Parts never change; the methods return new parts."""

    def __init__(self, word, name, shown, hidden, constraints):
        _check_names(name, shown, hidden)
        _check_single([*shown, *hidden])
        self.word = word
        self.name = name
        self.shown = merge_names(shown)
        self.hidden = merge_names(hidden)
        self.constraints = tuple(constraints)

    @classmethod
    def bare(cls, word, name):
        """Return a part without names and constraints."""
        return cls(word, name, (), (), ())

    @property
    def names(self):
        """All names, shown and hidden, in ascending order."""
        return merge_names(self.shown, self.hidden)

    @property
    def theory(self):
        """All names and the constraints."""
        return self.names, self.constraints

    def __len__(self):
        return len(self.constraints)

    def __iter__(self):
        return iter(self.constraints)

    def __contains__(self, x):
        return x in self.shown

    def __sub__(self, other):
        if other not in self.shown:
            raise InvalidPart(other)
        shown = [name for name in self.shown if name != other]
        return Part(self.word, self.name, shown, [*self.hidden, other], self.constraints)

    def reveal(self, name):
        """Return the part with this hidden name shown."""
        if name not in self.hidden or not is_name(name):
            raise InvalidPart(name)
        hidden = [other for other in self.hidden if other != name]
        return Part(self.word, self.name, [*self.shown, name], hidden, self.constraints)

    def with_constraints(self, constraints):
        """Return the part with these constraints instead."""
        return Part(self.word, self.name, self.shown, self.hidden, constraints)

    def called(self, name):
        """Return the part under another name."""
        return Part(self.word, name, self.shown, self.hidden, self.constraints)


def _check_names(name, shown, hidden):
    """Raise InvalidName for the first string that is not the name that it should be."""
    for plain in [name, *shown]:
        if not is_name(plain):
            raise InvalidName(plain)
    for full in hidden:
        if not is_full_name(full):
            raise InvalidName(full)


def _check_single(names):
    """Raise InvalidPart for the least name that occurs more than once."""
    for name in merge_names(names):
        if names.count(name) > 1:
            raise InvalidPart(name)
