"""The kind rows: names have the values 0, 1 and 2, and constraints are tables."""

from shadowlinks.errors import NoSolution
from shadowlinks.kinds import Kind
from shadowlinks.names import is_ascending, merge_names, replace_names
from shadowlinks.shadows import satisfies
from shadowlinks.tables import agreeing, can_hold, drop_column, join_tables, rearranged

VALUES = (0, 1, 2)


class Rows(Kind):
    """The kind rows."""

    WORD = "rows"

    def names_in(self, constraint):
        """Return the names of the table."""
        return constraint[0]

    def is_valid(self, names, constraint):
        """Return True if names and rows ascend, and each row has a value for each name, otherwise False."""
        own, table = constraint
        if not super().is_valid(names, constraint) or not is_ascending(own) or not is_ascending(table):
            return False
        return all([len(row) == len(own) and all([value in VALUES for value in row]) for row in table])

    def holds(self, constraint, assignment):
        """Return True if the values of the names are a row of the table, otherwise False."""
        names, table = constraint
        return tuple([assignment[name] for name in names]) in table

    def contradiction(self):
        """Return the table without names and without rows."""
        return (), ()

    def rename(self, theory, table):
        """Return the theory with other names; columns and rows are sorted anew."""
        names, constraints = theory
        renamed = tuple([rearranged(constraint, table) for constraint in constraints])
        return merge_names(replace_names(names, table)), renamed

    def eliminate(self, theory, name):
        """Return the tables without the name, and the join of the others without its column."""
        names, constraints = theory
        kept = [constraint for constraint in constraints if name not in constraint[0]]
        met = [constraint for constraint in constraints if name in constraint[0]]
        if met != []:
            kept.append(drop_column(_joined(met), name))
        return tuple([other for other in names if other != name]), tuple(kept)

    def lift(self, theory, name, assignment):
        """Return the least value that fits."""
        for value in VALUES:
            if satisfies(self, theory, {**assignment, name: value}):
                return value
        raise NoSolution(f"no value fits for {name}")

    def ground(self, theory):
        """Return the assignment without names if it is a solution, otherwise None."""
        return {} if satisfies(self, theory, {}) else None

    def normal(self, theory):
        """Return the theory of one table over all names, whose rows are the solutions."""
        names, constraints = theory
        columns = [((name,), ((0,), (1,), (2,))) for name in names]
        return names, (_joined([*constraints, *columns]),)

    def certificate(self, theory, constraint):
        """Return a tree of cases that shows the constraint, or None."""
        return _explored(theory, constraint)[0]

    def accepts(self, theory, constraint, certificate):
        """Return True if everything that the tree says is right, otherwise False."""
        return _is_right(theory, constraint, certificate, {})

    def counterexample(self, theory, constraint):
        """Return a solution in which the constraint fails, or None."""
        return _explored(theory, constraint)[1]

    def pin(self, names, assignment):
        """Return one table over all names, with one row."""
        return names, ((names, (tuple([assignment[name] for name in names]),)),)


def _joined(tables):
    """Return the join of the tables, taken one after another."""
    found = (), ((),)
    for table in tables:
        found = join_tables(found, table)
    return found


def _explored(theory, constraint):
    """Return a tree of cases and None, or None and a solution in which the constraint fails."""
    return _cases(theory[0], theory[1], constraint, {})


def _cases(names, tables, constraint, decided):
    """Return the same for decided values of other names; the tables have only rows that agree with them."""
    for index, table in enumerate(tables):
        if table[1] == ():
            return index, None
    if _is_shown(constraint, decided):
        return -1, None
    if names == ():
        return None, decided
    name = _next_name(names, tables, constraint)
    others = tuple([other for other in names if other != name])
    trees = []
    for value in VALUES:
        one = {name: value}
        fewer = [agreeing(table, one) if name in table[0] else table for table in tables]
        tree, found = _cases(others, fewer, constraint, {**decided, **one})
        if found is not None:
            return None, found
        trees.append(tree)
    return (name, *trees), None


def _next_name(names, tables, constraint):
    """Return the name to be decided next: one of the constraint, and one that few rows are about."""
    asked = [name for name in names if name in constraint[0]]
    waiting = names if asked == [] else asked
    sizes = [(len(rows), name) for own, rows in tables for name in own if name in waiting]
    return min(sizes)[1] if sizes != [] else waiting[0]


def _is_shown(constraint, decided):
    """Return True if all names are decided and their values are a row of the table, otherwise False."""
    names, table = constraint
    return all([name in decided for name in names]) and tuple([decided[name] for name in names]) in table


def _is_right(theory, constraint, tree, decided):
    """Return True if what the tree says is right for the decided values, otherwise False."""
    names, tables = theory
    if isinstance(tree, int):
        if tree == -1:
            return _is_shown(constraint, decided)
        return 0 <= tree < len(tables) and not can_hold(tables[tree], decided)
    name = tree[0]
    if name not in names or name in decided:
        return False
    pairs = list(zip(VALUES, tree[1:]))
    return all([_is_right(theory, constraint, branch, {**decided, name: value}) for value, branch in pairs])
