"""The written form of tables, the constraints of the kind rows."""

from shadowlinks.errors import InvalidText
from shadowlinks.namelists import parse_columns
from shadowlinks.names import is_ascending

VALUES = "012"


def format_table(constraint):
    """Return the written form of the table."""
    names, table = constraint
    rows = [_format_row(row) for row in table]
    return " ".join([*names, ":", *rows])


def parse_table(text, *, line=1):
    """Return the table with this written form."""
    names, rows = parse_columns(text, line=line)
    table = tuple([_parse_row(token, len(names), line) for token in rows])
    if not is_ascending(table):
        raise InvalidText(line)
    return names, table


def _format_row(row):
    """Return the token for the row."""
    return "-" if row == () else "".join([str(value) for value in row])


def _parse_row(token, width, line):
    """Return the row with this number of values for which the token stands."""
    if width == 0 and token == "-":
        return ()
    if width == 0 or len(token) != width or not all([value in VALUES for value in token]):
        raise InvalidText(line)
    return tuple([int(value) for value in token])
