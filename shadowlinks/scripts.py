"""Scripts: lines that stand for commands of a desk."""

from shadowlinks.digits import parse_number
from shadowlinks.errors import InvalidText
from shadowlinks.names import is_full_name, is_name
from shadowlinks.notation import format_constraint, parse_constraint
from shadowlinks.parttexts import format_part, read_part

# What stands behind the word on a line that is a command by itself.
FORMS = {
    "take": ("name",), "flatten": ("name",), "hide": ("name", "name"), "unhide": ("name", "full name"),
    "unsay": ("name", "number"), "undo": (), "redo": (),
}
# What stands behind the word on a line that is followed by the lines of a part.
HEADS = {"edit": (), "release": (), "exchange": ("name",)}
QUESTIONS = {"works": (), "solution": (), "report": (), "parts": (), "shadow": ("name",)}


def read_script(kind, lines, *, first=1):
    """Return the commands for which the lines stand."""
    commands = []
    at = 0
    while at < len(lines):
        command, at = _read_command(kind, lines, at, first)
        commands.append(command)
    return tuple(commands)


def format_script(kind, commands):
    """Return the lines that stand for the commands."""
    return tuple([line for command in commands for line in _lines_of(kind, command)])


def _read_command(kind, lines, at, first):
    """Return the command that begins at the index, and the index behind it."""
    tokens = lines[at].split(" ")
    number = first + at
    if tokens[0] == "part":
        part, after = read_part(kind, lines, at, first)
        return ("put", part), after
    if tokens[0] in HEADS:
        start = _read_words(tokens, HEADS[tokens[0]], number)
        part, after = read_part(kind, lines, at + 1, first)
        return (*start, part), after
    return _read_line(kind, lines[at], tokens, number), at + 1


def _read_line(kind, text, tokens, number):
    """Return the command for which one line stands."""
    match tokens[0]:
        case "say":
            name, _, rest = text.removeprefix("say ").partition(" ")
            return (*_read_words(["say", name], ("name",), number), parse_constraint(kind.WORD, rest, line=number))
        case "ask":
            return "ask", *_read_question(kind, text.removeprefix("ask "), number)
        case _:
            return _read_words(tokens, FORMS.get(tokens[0]), number)


def _read_question(kind, text, number):
    """Return the word of the question and what stands behind it."""
    if text.startswith("why "):
        return "why", parse_constraint(kind.WORD, text.removeprefix("why "), line=number)
    tokens = text.split(" ")
    return _read_words(tokens, QUESTIONS.get(tokens[0]), number)


def _read_words(tokens, forms, number):
    """Return the tokens if those behind the first one have these forms; without forms the line is bad."""
    if forms is None or len(tokens) != len(forms) + 1:
        raise InvalidText(number)
    return tokens[0], *[_read_token(form, token, number) for form, token in zip(forms, tokens[1:])]


def _read_token(form, token, number):
    """Return the name or the integer for which the token stands."""
    if form == "number":
        return parse_number(token, line=number)
    if not is_full_name(token) or form == "name" and not is_name(token):
        raise InvalidText(number)
    return token


def _lines_of(kind, command):
    """Return the lines that stand for the command."""
    word = command[0]
    if word == "put":
        return format_part(command[1])
    if word in HEADS:
        return " ".join(command[:-1]), *format_part(command[-1])
    if word == "say" or command[:2] == ("ask", "why"):
        return (" ".join([*command[:-1], format_constraint(kind.WORD, command[-1])]),)
    return (" ".join([str(token) for token in command]),)
