"""Reading lists of names, alone and before a colon."""

from shadowlinks.errors import InvalidText
from shadowlinks.names import are_full_names


def parse_names(words, *, line=1):
    """Return the words as a tuple if they are full names in ascending order."""
    if not are_full_names(words):
        raise InvalidText(line)
    return tuple(words)


def parse_columns(text, *, line=1):
    """Return the names before the first token `:` of the text, and the tokens behind it."""
    tokens = text.split(" ")
    if ":" not in tokens:
        raise InvalidText(line)
    colon = tokens.index(":")
    return parse_names(tokens[:colon], line=line), tuple(tokens[colon + 1:])
