"""Lists of integers: the coefficients of some names in their order, and further numbers behind them."""

from math import gcd


def coefficients_of(names, terms):
    """Return a list with the coefficients of the names, in the order of the names."""
    found = dict(terms)
    return [found.get(name, 0) for name in names]


def terms_of(names, row):
    """Return the terms for the coefficients that the row begins with, in the order of the names."""
    return tuple([(name, number) for name, number in zip(names, row) if number != 0])


def common_divisor(numbers):
    """Return the greatest common divisor of the numbers, 0 if all of them are 0."""
    divisor = 0
    for number in numbers:
        divisor = gcd(divisor, number)
    return divisor


def shortened(row):
    """Return the row divided by the greatest common divisor of its numbers."""
    divisor = common_divisor(row)
    return [number // divisor for number in row] if divisor > 1 else list(row)


def blend(row, factor, other, weight):
    """Return the factor times the row plus the weight times the other row."""
    return [factor * number + weight * its for number, its in zip(row, other)]


def cleared(row, solved, column):
    """Return the row with 0 in the column: times a positive number, plus a multiple of the solved row."""
    return shortened(blend(row, solved[column], solved, -row[column]))


def reduced(row, solved):
    """Return the row, shortened, with 0 in each column that is a key of the dict, by the solved row of this column."""
    found = shortened(row)
    for column in solved:
        found = cleared(found, solved[column], column)
    return found


def echelon(rows, width):
    """Solve the rows for the first of their first `width` columns.

    Returns a dict from columns to rows, and a list of the rows that are left. In each row of the dict,
    the number in its column is positive and the first one that is not 0, and the columns of the other
    rows are 0. In the rows that are left, the first `width` columns are 0.
    """
    solved = {}
    left = []
    for given in rows:
        row = reduced(given, solved)
        column = _leading(row, width)
        if column is None:
            left.append(row)
        else:
            fresh = row if row[column] > 0 else [-number for number in row]
            solved = {other: cleared(solved[other], fresh, column) for other in solved}
            solved[column] = fresh
    return solved, left


def _leading(row, width):
    """Return the first of the first `width` columns in which the row is not 0, or None."""
    for column, number in enumerate(row[:width]):
        if number != 0:
            return column
    return None
