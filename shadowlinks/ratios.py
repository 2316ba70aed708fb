"""Fractions as pairs of a numerator and a denominator in lowest terms."""

from math import gcd


def ratio(top, bottom=1):
    """Return the fraction of the two integers as a ratio."""
    common = gcd(top, bottom)
    if bottom < 0:
        return -top // common, -bottom // common
    return top // common, bottom // common


def total(*parts):
    """Return the sum of the ratios."""
    top, bottom = 0, 1
    for own_top, own_bottom in parts:
        top, bottom = top * own_bottom + own_top * bottom, bottom * own_bottom
    return ratio(top, bottom)


def times(first, second):
    """Return the product of the two ratios."""
    return ratio(first[0] * second[0], first[1] * second[1])


def quotient(first, second):
    """Return the first ratio divided by the second one."""
    return ratio(first[0] * second[1], first[1] * second[0])


def is_below(first, second):
    """Return True if the first ratio is less than the second one, otherwise False."""
    return first[0] * second[1] < second[0] * first[1]


def ratio_at(terms, assignment):
    """Return the sum of the coefficients times the values."""
    parts = [times((coefficient, 1), assignment[name]) for name, coefficient in terms]
    return total(*parts)
