"""The desk: a live linker that is run by scripts."""

from shadowlinks.compare import flattened
from shadowlinks.errors import (
    Incompatible, InvalidConstraint, InvalidLink, InvalidPart, NothingToUndo, UnknownPart,
)
from shadowlinks.linker import Linker
from shadowlinks.notation import format_constraint
from shadowlinks.parttexts import format_part
from shadowlinks.scripts import read_script
from shadowlinks.valuetexts import format_assignment


class Desk:
    """A desk with a linker."""

    def __init__(self, kind):
        self.linker = Linker(kind)

    def run(self, lines):
        """Carry out the commands of the script and return their replies."""
        commands = read_script(self.linker.kind, lines)
        return tuple([self._reply(command) for command in commands])

    def saved(self):
        """Return the lines of all parts: a script that puts them."""
        return tuple([line for part in self.linker for line in format_part(part)])

    def _reply(self, command):
        """Carry out the command and return its reply."""
        try:
            return self._carried_out(command)
        except InvalidConstraint as wrong:
            return (f"refused constraint {wrong.index}",)
        except InvalidPart as unfit:
            return (f"refused part {unfit.name}",)
        except InvalidLink as loose:
            return (f"refused link {loose.name}",)
        except UnknownPart as unknown:
            return (f"refused unknown {unknown.name}",)
        except NothingToUndo:
            return ("refused nothing",)
        except Incompatible as edition:
            kind = self.linker.kind
            _, constraints = edition.surrounding
            return "refused edition", *[format_constraint(kind.WORD, told) for told in constraints]

    def _carried_out(self, command):
        """Carry out the command and return its reply if no error is raised."""
        if command[0] == "ask":
            question = command[1:]
            return self._answer(*question)
        self.linker.perform(*command)
        return ("done",)

    def _answer(self, word, *about):
        """Return the reply to a question."""
        linker = self.linker
        kind = linker.kind
        match word:
            case "works":
                return linker.report()[-1:]
            case "solution":
                found = linker.current_solution()
                return ("none" if found is None else format_assignment(kind.WORD, found),)
            case "report":
                return linker.report()
            case "parts":
                return self.saved()
            case "shadow":
                return format_part(flattened(kind, linker[about[0]]))
            case _:
                names = linker.why(about[0])
                return ("open" if names is None else " ".join(["because", *names]),)
