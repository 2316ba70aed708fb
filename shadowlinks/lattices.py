"""What follows from constraints of the kind wholes: equations and whole rows."""

from math import lcm

from shadowlinks.progressions import bezout, progression
from shadowlinks.vectors import blend, coefficients_of, common_divisor, echelon, shortened, terms_of


class Lattice:
    """The equations and the whole rows of constraints, solved for names in a given order.

    A row is a list: a number for each name, the rest, and a weight for each constraint. Each row of
    `_equations` is a weighted sum of the constraints. The rows of `_wholes` tell fractions: the numbers
    and the rest, divided by `_scale`, are a whole row in the sense of the normal form. Up to multiples
    of the scale, such a row is a weighted sum of the constraints, and each of its weights times the
    modulus of the constraint is 0. So its numbers, too, matter only up to multiples of the scale.
    """

    def __init__(self, order, constraints):
        self.clash = None
        self._order = tuple(order)
        self._width = len(order)
        self._many = len(constraints)
        rows = [self._row_of(constraint, index) for index, constraint in enumerate(constraints)]
        moduli = [modulus for _, modulus, _ in constraints]
        self._equations, left = echelon([row for row, modulus in zip(rows, moduli) if modulus == 0], self._width)
        self._scale = _common_scale(moduli, [self._equations[column][column] for column in self._equations])
        self._free = [column for column in range(self._width) if column not in self._equations]
        self._wholes = {column: self._unit_row(column) for column in self._free}
        for row in left:
            self._check_left(row)
        for column in self._equations:
            self._insert(self._unit_row(column))
        for row, modulus in zip(rows, moduli):
            if modulus != 0:
                self._insert([self._scale // modulus * number for number in row])
        self._wholes = {column: self._tidied(column) for column in self._free}

    def normal_form(self):
        """Return the constraints of the normal form, in no particular order, if there is a solution."""
        equations = [self._equation(self._equations[column]) for column in self._equations]
        named = [column for column in self._free if self._wholes[column][column] < self._scale]
        return [*equations, *[self._congruence(self._wholes[column]) for column in named]]

    def last_values(self):
        """Return the progression of the values of the last name in the solutions, if there are any."""
        column = self._width - 1
        if column in self._equations:
            row = self._equations[column]
            return 0, row[self._width] // row[column]
        row = self._wholes[column]
        return progression(self._scale // row[column], row[self._width] // row[column])

    def certificate_for(self, constraint):
        """Return a divisor, a scale and weights that show that the constraint follows, or None."""
        if self.clash is not None:
            return _smallest(self.clash[0], 0, self.clash[1])
        modulus = constraint[1]
        row = self._without_bound([self._scale * number for number in self._row_of(constraint, None)])
        divisor = self._scale * modulus
        if modulus == 0:
            if any(row[:self._width + 1]):
                return None
            return _smallest(0, self._scale, [-number for number in row[self._width + 1:]])
        for column in self._free:
            many, left = divmod(row[column], modulus * self._wholes[column][column])
            if left != 0:
                return None
            row = blend(row, 1, self._wholes[column], -many * modulus)
        if row[self._width] % divisor != 0:
            return None
        return _smallest(divisor, self._scale, [-number % divisor for number in row[self._width + 1:]])

    def _row_of(self, constraint, index):
        """Return the row of the constraint with the index; without an index all weights are 0."""
        terms, _, rest = constraint
        weights = [1 if own == index else 0 for own in range(self._many)]
        return [*coefficients_of(self._order, terms), rest, *weights]

    def _unit_row(self, column):
        """Return the whole row that tells that the value of one name is an integer."""
        return [self._scale if own == column else 0 for own in range(self._width + 1 + self._many)]

    def _without_bound(self, row):
        """Return the row with 0 at each bound name, by the equations; the scale makes the divisions exact."""
        for column in self._equations:
            solved = self._equations[column]
            row = blend(row, 1, solved, -(row[column] // solved[column]))
        return row

    def _check_left(self, row):
        """Keep a clash if an equation about the sum of no terms does not hold."""
        rest = row[self._width]
        if rest != 0:
            self.clash = abs(rest) + 1, row[self._width + 1:]

    def _insert(self, row):
        """Make the whole rows tell what the row tells, too."""
        row = self._up_to_scale(self._without_bound(row))
        for column in self._free:
            if row[column] != 0:
                whole = self._wholes[column]
                common, factor, weight = bezout(whole[column], row[column])
                self._wholes[column] = self._up_to_scale(blend(whole, factor, row, weight))
                row = self._up_to_scale(blend(row, whole[column] // common, whole, -row[column] // common))
        if row[self._width] != 0:
            self.clash = self._scale, row[self._width + 1:]

    def _up_to_scale(self, row):
        """Return the row with numbers of at least 0 that are less than the scale."""
        return [number % self._scale for number in row]

    def _tidied(self, column):
        """Return the whole row of the name, with the least numbers of at least 0 at the later names."""
        row = self._wholes[column]
        for later in self._free:
            if later > column:
                whole = self._wholes[later]
                row = blend(row, 1, whole, -(row[later] // whole[later]))
        return [*row[:self._width], *self._up_to_scale(row[self._width:])]

    def _equation(self, row):
        """Return the equation of the normal form for the row."""
        divisor = common_divisor(row[:self._width])
        numbers = [number // divisor for number in row[:self._width + 1]]
        return terms_of(self._order, numbers), 0, numbers[self._width]

    def _congruence(self, row):
        """Return the congruence of the normal form for the row."""
        numbers = shortened([*row[:self._width + 1], self._scale])
        return terms_of(self._order, numbers), numbers[-1], numbers[self._width]


def values_in(theory, terms):
    """Return the progression of the values of the sum in the solutions of the theory, or None if there are none."""
    names, constraints = theory
    # The empty string is no name, so it can stand for the sum.
    lattice = Lattice((*names, ""), (*constraints, ((*terms, ("", -1)), 0, 0)))
    return lattice.last_values() if lattice.clash is None else None


def _common_scale(moduli, leads):
    """Return a multiple of the product of each modulus and each leading number of an equation."""
    modulus, lead = 1, 1
    for own in moduli:
        modulus = lcm(modulus, max(own, 1))
    for own in leads:
        lead = lcm(lead, own)
    return modulus * lead


def _smallest(divisor, scale, weights):
    """Return the numbers of a certificate, divided by their common divisor."""
    common = common_divisor([divisor, scale, *weights])
    return divisor // common, scale // common, tuple([weight // common for weight in weights])
