"""The written form of the constraints of the kind steps."""

from shadowlinks.digits import parse_number
from shadowlinks.errors import InvalidText
from shadowlinks.names import is_full_name


def format_step(constraint):
    """Return the written form of the constraint."""
    x, y, c = constraint
    return f"{_format_side(x)} - {_format_side(y)} <= {c}"


def parse_step(text, *, line=1):
    """Return the constraint with this written form."""
    tokens = text.split(" ")
    if len(tokens) != 5 or tokens[1] != "-" or tokens[3] != "<=":
        raise InvalidText(line)
    x = _parse_side(tokens[0], line)
    y = _parse_side(tokens[2], line)
    if x == y and x != "":
        raise InvalidText(line)
    return x, y, parse_number(tokens[4], line=line)


def _format_side(name):
    """Return the token for a name or the empty string."""
    return "0" if name == "" else name


def _parse_side(token, line):
    """Return the name or the empty string for which the token stands."""
    if token == "0":
        return ""
    if not is_full_name(token):
        raise InvalidText(line)
    return token
