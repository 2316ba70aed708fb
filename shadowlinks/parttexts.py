"""The written form of parts."""

from shadowlinks.errors import InvalidText
from shadowlinks.namelists import parse_names
from shadowlinks.names import is_name, merge_names
from shadowlinks.notation import format_constraint, parse_constraint
from shadowlinks.parts import Part


def format_part(part):
    """Return the lines of the part."""
    says = [f"say {format_constraint(part.word, constraint)}" for constraint in part.constraints]
    show = " ".join(["show", *part.shown])
    hide = " ".join(["hide", *part.hidden])
    return f"part {part.name} {part.word}", show, hide, *says, "end"


def parse_part(kind, lines, /, *, first=1):
    """Return the part whose written form is the lines."""
    part, after = read_part(kind, lines, 0, first)
    if after < len(lines):
        raise InvalidText(first + after)
    return part


def each_part(kind, lines, /, *, first=1):
    """Yield the parts whose lines stand one after another."""
    at = 0
    while at < len(lines):
        part, at = read_part(kind, lines, at, first)
        yield part


def parse_parts(kind, lines, /, *, first=1):
    """Return the parts whose lines stand one after another."""
    return tuple(each_part(kind, lines, first=first))


def read_part(kind, lines, at, first):
    """Return the part that begins at the index, and the index behind its end.

    The line with the index 0 has the number `first`.
    """
    name = _parse_head(kind, _line_at(lines, at, first), first + at)
    shown = _parse_shown(_line_at(lines, at + 1, first), first + at + 1)
    hidden = _parse_hidden(_line_at(lines, at + 2, first), shown, first + at + 2)
    names = merge_names(shown, hidden)
    constraints = []
    here = at + 3
    while _line_at(lines, here, first) != "end":
        constraints.append(_parse_say(kind, names, lines[here], first + here))
        here = here + 1
    return Part(kind.WORD, name, shown, hidden, constraints), here + 1


def _line_at(lines, at, first):
    """Return the line at the index; a line that is missing is bad."""
    if at >= len(lines):
        raise InvalidText(first + at)
    return lines[at]


def _parse_head(kind, text, line):
    """Return the name of the part for its first line."""
    tokens = text.split(" ")
    if len(tokens) != 3 or tokens[0] != "part" or not is_name(tokens[1]) or tokens[2] != kind.WORD:
        raise InvalidText(line)
    return tokens[1]


def _parse_shown(text, line):
    """Return the shown names for the second line."""
    shown = _parse_listed("show", text, line)
    if not all([is_name(name) for name in shown]):
        raise InvalidText(line)
    return shown


def _parse_hidden(text, shown, line):
    """Return the hidden names for the third line."""
    hidden = _parse_listed("hide", text, line)
    if not all([name not in shown for name in hidden]):
        raise InvalidText(line)
    return hidden


def _parse_listed(word, text, line):
    """Return the names behind the word."""
    tokens = text.split(" ")
    if tokens[0] != word:
        raise InvalidText(line)
    return parse_names(tokens[1:], line=line)


def _parse_say(kind, names, text, line):
    """Return the constraint for a line that says one about these names."""
    if not text.startswith("say "):
        raise InvalidText(line)
    constraint = parse_constraint(kind.WORD, text.removeprefix("say "), line=line)
    if not kind.is_valid(names, constraint):
        raise InvalidText(line)
    return constraint
