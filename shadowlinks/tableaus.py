"""Greatest values of sums under constraints of the kind lines, by exact pivoting."""

from shadowlinks.ratios import ratio


class Tableau:
    """The solutions of constraints of the kind lines, and one of them, the present point.

    There is a variable for each name and one for each constraint, the room that the constraint leaves:
    its bound minus its sum. A name may have any value, the room of an inequality is at least 0, and the
    room of an equation is 0. The variables at the columns are 0 at the present point. Each row tells
    another variable: a number and the coefficients of the columns, all divided by one common bottom.
    """

    def __init__(self, names):
        self.clash = None
        self._names = tuple(names)
        self._columns = list(names)
        self._basic = []
        self._rows = []
        self._bottom = 1
        self._equations = {}

    def limit(self, index, constraint):
        """Add the constraint with the index; equations are added before inequalities.

        If there is no solution any more, `clash` becomes a dict with weights of the constraints whose
        weighted sum is the sum of no terms, with a bound below 0. Afterwards nothing is added.
        """
        if self.clash is not None:
            return
        terms, sign, bound = constraint
        row = self._told([(name, -number) for name, number in terms], bound)
        at = len(self._rows)
        self._rows.append(row)
        self._basic.append(index)
        if sign == "=":
            self._equations[index] = True
        column = self._free_column(row)
        if column is not None:
            self._pivot(at, column)
        elif sign == "=":
            self._drop_equation(at)
        else:
            self._make_room(at)

    def point(self):
        """Return the present point, a dict from the names to ratios."""
        values = {name: (0, 1) for name in self._names}
        for variable, row in zip(self._basic, self._rows):
            if isinstance(variable, str):
                values[variable] = ratio(row[0], self._bottom)
        return values

    def summit(self, terms):
        """Go to a point with the greatest value of the sum; return None if the sum has none.

        Otherwise return a triple (top, bottom, weights). The greatest value is top divided by bottom.
        The bottom times the sum is the weighted sum of the constraints, and its bound is the top. The
        weights are a dict; constraints with the weight 0 may be missing.
        """
        at = len(self._rows)
        self._rows.append(self._told(terms, 0))
        self._basic.append("")
        found = self._climb(at)
        row = self._rows.pop()
        self._basic.pop()
        if not found:
            return None
        return row[0], self._bottom, self._weights(row)

    def is_tight(self, index, constraint):
        """Return True if the constraint, which was added with the index, leaves no room in any solution."""
        if index in self._basic and self._rows[self._basic.index(index)][0] > 0:
            return False
        terms, _, bound = constraint
        found = self.summit([(name, -number) for name, number in terms])
        return found is not None and found[0] == -bound * found[1]

    def _told(self, terms, number):
        """Return the row for the number plus the sum."""
        row = [number * self._bottom, *[0 for _ in self._columns]]
        for name, coefficient in terms:
            if name in self._columns:
                column = self._columns.index(name) + 1
                row[column] = row[column] + coefficient * self._bottom
            else:
                other = self._rows[self._basic.index(name)]
                row = [own + coefficient * its for own, its in zip(row, other)]
        return row

    def _is_room(self, variable):
        """Return True if the variable is the room of an inequality, otherwise False."""
        return isinstance(variable, int) and variable not in self._equations

    def _free_column(self, row):
        """Return a column of a name at which the row is not 0, or None."""
        for column, variable in enumerate(self._columns, start=1):
            if isinstance(variable, str) and row[column] != 0:
                return column
        return None

    def _rising_column(self, row):
        """Return the column of the least room with which the variable of the row grows, or None."""
        rooms = [
            (variable, column) for column, variable in enumerate(self._columns, start=1)
            if row[column] > 0 and self._is_room(variable)
        ]
        return min(rooms)[1] if rooms != [] else None

    def _first_stop(self, column, goal):
        """Return the row that is the first one to become 0 when the variable at the column grows.

        Such a row tells a room, or it is the goal, which is below 0 and grows. The goal comes first, then
        the least room: so no pivots are repeated forever.
        """
        best = goal
        for at, row in enumerate(self._rows):
            if row[column] < 0 and self._is_room(self._basic[at]):
                if best is None or self._is_sooner(at, best, column, goal):
                    best = at
        return best

    def _is_sooner(self, at, best, column, goal):
        """Return True if the row stops the variable at the column before the best row does."""
        row, other = self._rows[at], self._rows[best]
        mine = abs(row[0] * other[column])
        its = abs(other[0] * row[column])
        if mine == its:
            return best != goal and self._basic[at] < self._basic[best]
        return mine < its

    def _climb(self, at):
        """Raise the variable of the row as far as possible; return False if it grows without end."""
        if self._free_column(self._rows[at]) is not None:
            return False
        column = self._rising_column(self._rows[at])
        while column is not None:
            stop = self._first_stop(column, None)
            if stop is None:
                return False
            self._pivot(stop, column)
            column = self._rising_column(self._rows[at])
        return True

    def _make_room(self, at):
        """Raise the room that the row tells to 0, if it is less; if that fails, there is a clash."""
        while self._rows[at][0] < 0:
            column = self._rising_column(self._rows[at])
            if column is None:
                self.clash = self._shown_by(at)
                return
            self._pivot(self._first_stop(column, at), column)

    def _drop_equation(self, at):
        """Remove the row of an equation that follows from other ones; if it contradicts them, there is a clash."""
        number = self._rows[at][0]
        weights = self._shown_by(at)
        if number != 0:
            self.clash = weights if number < 0 else {index: -weights[index] for index in weights}
        self._rows.pop(at)
        self._basic.pop(at)

    def _shown_by(self, at):
        """Return the weights with which the rooms of the constraints always add up to the number of the row."""
        return {**self._weights(self._rows[at]), self._basic[at]: self._bottom}

    def _weights(self, row):
        """Return by constraint at the columns how often its room is missing from the number of the row."""
        pairs = list(zip(self._columns, row[1:]))
        return {variable: -number for variable, number in pairs if isinstance(variable, int)}

    def _pivot(self, at, column):
        """Exchange the variable of the row for the variable at the column."""
        row = self._rows[at]
        lead = row[column]
        sign = 1 if lead > 0 else -1
        turned = [-sign * number for number in row]
        turned[column] = sign * self._bottom
        rows = [self._exchanged(other, row, column) for other in self._rows]
        rows[at] = turned
        self._rows = rows
        self._bottom = abs(lead)
        self._basic[at], self._columns[column - 1] = self._columns[column - 1], self._basic[at]

    def _exchanged(self, other, row, column):
        """Return another row after the exchange. The divisions leave no rest: all numbers are minors."""
        lead, entry = row[column], other[column]
        bottom = self._bottom if lead > 0 else -self._bottom
        fresh = [(number * lead - entry * its) // bottom for number, its in zip(other, row)]
        fresh[column] = entry if lead > 0 else -entry
        return fresh


def filled_tableau(theory):
    """Return the tableau of the names with all constraints of the theory, under their indices."""
    names, constraints = theory
    tableau = Tableau(names)
    for sign in ("=", "<="):
        for index, constraint in enumerate(constraints):
            if constraint[1] == sign:
                tableau.limit(index, constraint)
    return tableau


def follows_linear(tableau, constraint):
    """Return True if the inequality holds at all points of a tableau without a clash, otherwise False."""
    found = tableau.summit(constraint[0])
    return found is not None and found[0] <= constraint[2] * found[1]
