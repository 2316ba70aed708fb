"""The live linker: parts of one kind that are edited while their shadows are kept."""

from shadowlinks.compare import compare, flattened, surrounding
from shadowlinks.dropping import items_at, needed_indices
from shadowlinks.errors import Incompatible, InvalidConstraint, InvalidLink, NothingToUndo, UnknownPart
from shadowlinks.links import Link, culprits_by, small_theories, solution_by
from shadowlinks.shadows import can_be_solved, check_theory, follows, part_shadow, shadow
from shadowlinks.theories import join, widen


class Standing:
    """The parts of a linker at one time, their shadows, and whether they work together. It never changes."""

    def __init__(self, parts, found, working_together):
        self.parts = parts
        self.found = found
        self.working_together = working_together


class Linker:
    """A live linker. What its attributes hold is replaced and never changed."""

    DEEDS = ("put", "take", "edit", "exchange", "release", "say", "unsay", "hide", "unhide", "flatten")

    def __init__(self, kind):
        self.kind = kind
        self.standing = Standing((), (), True)
        self.entries = ()
        # What can be undone and redone: pairs of the standing to which the step leads and the name in its entry.
        self.done = ()
        self.undone = ()

    @classmethod
    def of(cls, kind, parts):
        """Return a new linker into which the parts have been put one after another."""
        made = cls(kind)
        for part in parts:
            made.put(part)
        return made

    @property
    def working(self):
        """True if the linker works, otherwise False."""
        return self.standing.working_together

    @property
    def journal(self):
        """The entries of the deeds and steps in the order of time."""
        return self.entries

    def __len__(self):
        return len(self.standing.parts)

    def __iter__(self):
        return iter(self.standing.parts)

    def __contains__(self, x):
        return x in [part.name for part in self.standing.parts]

    def __getitem__(self, at):
        return self.standing.parts[self._index_of(at)]

    def __setitem__(self, at, worth):
        self.exchange(at, worth)

    def __iadd__(self, other):
        self.put(other)
        return self

    def __isub__(self, other):
        self.take(other)
        return self

    def put(self, part):
        """Add the part behind the other ones."""
        if self._is_of_another_kind(part) or part.name in self:
            raise InvalidLink(part.name)
        check_theory(self.kind, part.theory)
        now = self.standing
        self._work_out("put", part.name, (*now.parts, part), (*now.found, part_shadow(self.kind, part)))

    def take(self, name):
        """Remove the part."""
        at = self._index_of(name)
        now = self.standing
        parts = (*now.parts[:at], *now.parts[at + 1:])
        self._work_out("take", name, parts, (*now.found[:at], *now.found[at + 1:]))

    def edit(self, part):
        """Replace the part that has the same name."""
        at = self._checked_place(part.name, part)
        self._replace("edit", at, part)

    def exchange(self, name, part):
        """Replace the part with the name by a part that may have another name."""
        at = self._checked_place(name, part)
        self._replace("exchange", at, part)

    def release(self, part):
        """Replace the part that has the same name by an edition that is alike or wider."""
        at = self._checked_place(part.name, part)
        old = self.standing.parts[at]
        if compare(self.kind, old, part) in ("narrower", "apart"):
            raise Incompatible(surrounding(self.kind, old, part))
        self._replace("release", at, part)

    def say(self, name, *constraints):
        """Add the constraints to the part, behind the ones that it has."""
        at = self._index_of(name)
        old = self.standing.parts[at]
        part = old.with_constraints([*old.constraints, *constraints])
        check_theory(self.kind, part.theory)
        self._replace("say", at, part)

    def unsay(self, name, index):
        """Remove the constraint with the index from the part."""
        at = self._index_of(name)
        constraints = self.standing.parts[at].constraints
        if not 0 <= index < len(constraints):
            raise InvalidConstraint(index)
        left = [*constraints[:index], *constraints[index + 1:]]
        self._replace("unsay", at, self.standing.parts[at].with_constraints(left))

    def hide(self, name, shown):
        """Hide a shown name of the part."""
        at = self._index_of(name)
        self._replace("hide", at, self.standing.parts[at] - shown)

    def unhide(self, name, hidden):
        """Show a hidden name of the part."""
        at = self._index_of(name)
        self._replace("unhide", at, self.standing.parts[at].reveal(hidden))

    def flatten(self, name):
        """Replace the part by its flat part."""
        at = self._index_of(name)
        self._replace("flatten", at, flattened(self.kind, self.standing.parts[at]))

    def undo(self, *, steps=1):
        """Take back the last deeds that were not taken back yet."""
        if steps > len(self.done):
            raise NothingToUndo("there are too few deeds to take back")
        for _ in range(steps):
            earlier, name = self.done[-1]
            self.done = self.done[:-1]
            self.undone = (*self.undone, (self.standing, name))
            self._go_to("undo", name, earlier)

    def redo(self, *, steps=1):
        """Do the deeds again that were taken back last."""
        if steps > len(self.undone):
            raise NothingToUndo("there are too few deeds to do again")
        for _ in range(steps):
            later, name = self.undone[-1]
            self.undone = self.undone[:-1]
            self.done = (*self.done, (self.standing, name))
            self._go_to("redo", name, later)

    def perform(self, word, *arguments):
        """Do what the method with this word does with the arguments."""
        match word:
            case "put":
                self.put(*arguments)
            case "take":
                self.take(*arguments)
            case "edit":
                self.edit(*arguments)
            case "exchange":
                self.exchange(*arguments)
            case "release":
                self.release(*arguments)
            case "say":
                self.say(*arguments)
            case "unsay":
                self.unsay(*arguments)
            case "hide":
                self.hide(*arguments)
            case "unhide":
                self.unhide(*arguments)
            case "flatten":
                self.flatten(*arguments)
            case "undo":
                self.undo()
            case _:
                self.redo()

    def entries_about(self, name):
        """Yield the entries of the journal with this name."""
        for entry in self.entries:
            if entry[1] == name:
                yield entry

    def shadow_of(self, name):
        """Return the shadow of the part."""
        return self.standing.found[self._index_of(name)]

    def current_link(self):
        """Return the link of the parts."""
        return Link(self.kind, self.standing.parts)

    def current_solution(self):
        """Return the solution of the current link as a new dict, or None."""
        return solution_by(self.current_link(), self.standing.found)

    def current_culprits(self):
        """Return the culprits of the current link."""
        return culprits_by(self.current_link(), self.standing.found)

    def why(self, constraint):
        """Return the names of parts from whose shadows the constraint follows, or None."""
        names = self.current_link().interface
        if not self.kind.is_valid(names, constraint):
            raise InvalidConstraint(0)
        theories = small_theories(self.kind, self.standing.parts, self.standing.found)
        if not _does_follow(self.kind, names, theories, constraint):
            return None
        left = needed_indices(
            len(theories), lambda indices: _does_follow(self.kind, names, items_at(theories, indices), constraint)
        )
        return tuple([part.name for part in items_at(self.standing.parts, left)])

    def fits(self, part):
        """Return True if the linker would work with the part put or edited, otherwise False."""
        if self._is_of_another_kind(part):
            raise InvalidLink(part.name)
        check_theory(self.kind, part.theory)
        others = [own for own in self.standing.parts if own.name != part.name]
        found = [*self._found_without(part.name), part_shadow(self.kind, part)]
        return can_be_solved(self.kind, small_theories(self.kind, [*others, part], found))

    def surrounding_of(self, name):
        """Return what the other parts tell about the shown names of the part."""
        shown = self[name].shown
        others = [part for part in self.standing.parts if part.name != name]
        theories = small_theories(self.kind, others, self._found_without(name))
        return shadow(self.kind, widen(join(theories), *shown), shown=shown)

    def report(self):
        """Return a line for each part and a line about the whole."""
        now = self.standing
        lines = [_report_line(part, len(found[1])) for part, found in zip(now.parts, now.found)]
        last = "works" if now.working_together else " ".join(["clash", *self.current_culprits()])
        return *lines, last

    def _is_of_another_kind(self, part):
        """Return True if the word of the part is not the word of the kind, otherwise False."""
        kind = self.kind
        return part.word != kind.WORD

    def _index_of(self, name):
        """Return the index of the part with the name."""
        # An operator runs this, so it calls no method with the name of an attribute, as `index` is one of an error.
        for at, part in enumerate(self.standing.parts):
            if part.name == name:
                return at
        raise UnknownPart(name)

    def _found_without(self, name):
        """Return the shadows of the parts with other names."""
        now = self.standing
        return [found for part, found in zip(now.parts, now.found) if part.name != name]

    def _checked_place(self, name, part):
        """Return the index of the part with the name, if the passed part can stand in its place."""
        at = self._index_of(name)
        if self._is_of_another_kind(part) or part.name in self and part.name != name:
            raise InvalidLink(part.name)
        check_theory(self.kind, part.theory)
        return at

    def _replace(self, word, at, part):
        """Do the deed that puts the part in the place with the index."""
        now = self.standing
        name = now.parts[at].name
        parts = (*now.parts[:at], part, *now.parts[at + 1:])
        its_shadow = part_shadow(self.kind, part)
        if its_shadow == now.found[at]:
            self._enter(word, name, 0, Standing(parts, now.found, now.working_together))
        else:
            self._work_out(word, name, parts, (*now.found[:at], its_shadow, *now.found[at + 1:]))

    def _work_out(self, word, name, parts, found):
        """Do the deed after which the linker has these parts, with these shadows."""
        working_together = can_be_solved(self.kind, small_theories(self.kind, parts, found))
        self._enter(word, name, 1, Standing(parts, found, working_together))

    def _enter(self, word, name, looked, standing):
        """Do the deed with this entry, which leads to the standing."""
        self.done = (*self.done, (self.standing, name))
        self.undone = ()
        self.standing = standing
        self.entries = (*self.entries, (word, name, looked))

    def _go_to(self, word, name, standing):
        """Take a step of undo or redo, which leads to the standing."""
        self.standing = standing
        self.entries = (*self.entries, (word, name, 0))


def _does_follow(kind, names, theories, constraint):
    """Return True if the constraint follows from the join of the theories, with these names, otherwise False."""
    return follows(kind, widen(join(theories), *names), constraint)


def _report_line(part, many):
    """Return the line of the report for a part with so many constraints in its shadow."""
    return f"{part.name:<8} {len(part.shown):>3} {len(part.hidden):>3} {len(part):>3} {many:>3}"
