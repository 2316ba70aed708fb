"""Reading lists of names."""

from shadowlinks.errors import InvalidText
from shadowlinks.names import are_full_names


def parse_names(words, *, line=1):
    """Return the words as a tuple if they are full names in ascending order."""
    if not are_full_names(words):
        raise InvalidText(line)
    return tuple(words)
