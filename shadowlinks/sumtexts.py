"""The written form of sums and of the constraints of the kinds lines and wholes."""

from shadowlinks.digits import parse_number
from shadowlinks.errors import InvalidText
from shadowlinks.namelists import parse_names


def format_linear(constraint):
    """Return the written form of a constraint of the kind lines."""
    terms, sign, bound = constraint
    return f"{_format_terms(terms)} {sign} {bound}"


def parse_linear(text, *, line=1):
    """Return the constraint of the kind lines with this written form."""
    tokens = text.split(" ")
    if tokens[-2:-1] != ["<="] and tokens[-2:-1] != ["="]:
        raise InvalidText(line)
    return _parse_terms(tokens[:-2], line), tokens[-2], parse_number(tokens[-1], line=line)


def format_modular(constraint):
    """Return the written form of a constraint of the kind wholes."""
    terms, modulus, rest = constraint
    equation = f"{_format_terms(terms)} = {rest}"
    return equation if modulus == 0 else f"{equation} mod {modulus}"


def parse_modular(text, *, line=1):
    """Return the constraint of the kind wholes with this written form."""
    tokens = text.split(" ")
    if tokens[-2:-1] == ["mod"]:
        modulus = parse_number(tokens[-1], line=line)
        if modulus < 1:
            raise InvalidText(line)
        terms, rest = _parse_equation(tokens[:-2], line)
        return terms, modulus, rest
    terms, rest = _parse_equation(tokens, line)
    return terms, 0, rest


def _parse_equation(tokens, line):
    """Return the terms and the rest for which the tokens stand."""
    if tokens[-2:-1] != ["="]:
        raise InvalidText(line)
    return _parse_terms(tokens[:-2], line), parse_number(tokens[-1], line=line)


def _format_terms(terms):
    """Return the written form of the sum."""
    if terms == ():
        return "0"
    return " + ".join([f"{coefficient} {name}" for name, coefficient in terms])


def _parse_terms(tokens, line):
    """Return the terms for which the tokens stand: a coefficient, a name, a plus sign and so on."""
    if tokens == ["0"]:
        return ()
    if len(tokens) % 3 != 2 or not all([token == "+" for token in tokens[2::3]]):
        raise InvalidText(line)
    coefficients = [parse_number(token, line=line) for token in tokens[::3]]
    if 0 in coefficients:
        raise InvalidText(line)
    return tuple(zip(parse_names(tokens[1::3], line=line), coefficients))
