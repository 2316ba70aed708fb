"""The written form of values and of assignments of each kind, by the word of the kind."""

from math import gcd

from shadowlinks.digits import parse_number
from shadowlinks.errors import InvalidText
from shadowlinks.namelists import parse_names


def format_value(word, value):
    """Return the written form of a value of the kind with this word."""
    if word == "lines":
        top, bottom = value
        return str(top) if bottom == 1 else f"{top}/{bottom}"
    return str(value)


def parse_value(word, text, *, line=1):
    """Return the value of the kind with this word that has this written form."""
    match word:
        case "bits":
            return _parse_small(text, 1, line)
        case "rows":
            return _parse_small(text, 2, line)
        case "lines":
            return _parse_fraction(text, line)
        case "words":
            return _parse_letters(text, line)
        case _:
            return parse_number(text, line=line)


def format_assignment(word, assignment):
    """Return the written form of an assignment of the kind with this word."""
    # The ground has the least key, the empty string, so it comes first.
    return " ".join([_format_entry(word, name, assignment[name]) for name in sorted(assignment)])


def parse_assignment(word, text, *, line=1):
    """Return the assignment of the kind with this word that has this written form."""
    tokens = [] if text == "" else text.split(" ")
    if word == "words":
        return _parse_grounded(tokens, line)
    return _parse_entries(word, tokens, line)


def _parse_small(text, highest, line):
    """Return the integer from 0 to the highest with this written form."""
    number = parse_number(text, line=line)
    if not 0 <= number <= highest:
        raise InvalidText(line)
    return number


def _parse_fraction(text, line):
    """Return the fraction in lowest terms with this written form."""
    if "/" not in text:
        return parse_number(text, line=line), 1
    left, _, right = text.partition("/")
    top, bottom = parse_number(left, line=line), parse_number(right, line=line)
    if bottom < 2 or gcd(top, bottom) != 1:
        raise InvalidText(line)
    return top, bottom


def _parse_letters(text, line):
    """Return the text if it is a word of the letters a and b."""
    if not all([letter in "ab" for letter in text]):
        raise InvalidText(line)
    return text


def _format_entry(word, name, value):
    """Return the token for a name or the ground."""
    return f"={value}" if name == "" else f"{name}={format_value(word, value)}"


def _parse_entries(word, tokens, line):
    """Return a dict with the values of the names for which the tokens stand."""
    if not all(["=" in token for token in tokens]):
        raise InvalidText(line)
    names = parse_names([token.partition("=")[0] for token in tokens], line=line)
    texts = [token.partition("=")[2] for token in tokens]
    return {name: parse_value(word, text, line=line) for name, text in zip(names, texts)}


def _parse_grounded(tokens, line):
    """Return the same for words, with the ground, which is the first token."""
    if tokens == [] or not tokens[0].startswith("="):
        raise InvalidText(line)
    length = parse_number(tokens[0].removeprefix("="), line=line)
    values = _parse_entries("words", tokens[1:], line)
    if length < 0 or not all([len(values[name]) == length for name in values]):
        raise InvalidText(line)
    return {"": length, **values}
