"""The written form of constraints of each kind, by the word of the kind."""

from shadowlinks.bittexts import format_clause, parse_clause
from shadowlinks.errors import InvalidText
from shadowlinks.machinetexts import format_machine, parse_machine
from shadowlinks.steptexts import format_step, parse_step
from shadowlinks.sumtexts import format_linear, format_modular, parse_linear, parse_modular
from shadowlinks.tabletexts import format_table, parse_table


def format_constraint(word, constraint):
    """Return the written form of a constraint of the kind with this word."""
    match word:
        case "bits":
            return format_clause(constraint)
        case "steps":
            return format_step(constraint)
        case "lines":
            return format_linear(constraint)
        case "wholes":
            return format_modular(constraint)
        case "rows":
            return format_table(constraint)
        case _:
            return format_machine(constraint)


def parse_constraint(word, text, *, line=1):
    """Return the constraint of the kind with this word that has this written form."""
    match word:
        case "bits":
            return parse_clause(text, line=line)
        case "steps":
            return parse_step(text, line=line)
        case "lines":
            return parse_linear(text, line=line)
        case "wholes":
            return parse_modular(text, line=line)
        case "rows":
            return parse_table(text, line=line)
        case "words":
            return parse_machine(text, line=line)
        case _:
            raise InvalidText(line)
