"""The written form of machines, the constraints of the kind words."""

from shadowlinks.digits import parse_number
from shadowlinks.errors import InvalidText
from shadowlinks.namelists import parse_columns


def format_machine(constraint):
    """Return the written form of the machine."""
    names, moves, ends = constraint
    states = [_format_state(row, end) for row, end in zip(moves, ends)]
    return " ".join([*names, ":", *states])


def parse_machine(text, *, line=1):
    """Return the machine with this written form."""
    names, states = parse_columns(text, line=line)
    if states == ():
        raise InvalidText(line)
    moves = [_parse_moves(token.removeprefix("!"), len(states), line) for token in states]
    columns = 1 << len(names)
    if not all([len(row) == columns for row in moves]):
        raise InvalidText(line)
    return names, tuple(moves), tuple([1 if token.startswith("!") else 0 for token in states])


def _format_state(row, end):
    """Return the token for a state with these moves."""
    moves = ",".join(["." if move == -1 else str(move) for move in row])
    return f"!{moves}" if end == 1 else moves


def _parse_moves(text, many, line):
    """Return the moves of a state of a machine with this many states."""
    return tuple([_parse_move(move, many, line) for move in text.split(",")])


def _parse_move(text, many, line):
    """Return the number of the next state, or -1."""
    if text == ".":
        return -1
    move = parse_number(text, line=line)
    if not 0 <= move < many:
        raise InvalidText(line)
    return move
