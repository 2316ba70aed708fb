"""The written form of clauses, the constraints of the kind bits."""

from shadowlinks.namelists import parse_names


def format_clause(constraint):
    """Return the written form of the clause."""
    if constraint == ():
        return "0"
    return " ".join([name if sign == 1 else f"-{name}" for name, sign in constraint])


def parse_clause(text, *, line=1):
    """Return the clause with this written form."""
    if text == "0":
        return ()
    tokens = text.split(" ")
    names = parse_names([token.removeprefix("-") for token in tokens], line=line)
    signs = [0 if token.startswith("-") else 1 for token in tokens]
    return tuple(zip(names, signs))
