"""Progressions: sets of integers that differ by the multiples of a modulus."""


def progression(modulus, rest):
    """Return the progression of the integers that differ from the rest by a multiple of the modulus."""
    return modulus, rest if modulus == 0 else rest % modulus


def is_in(number, steps):
    """Return True if the integer belongs to the progression, otherwise False."""
    modulus, rest = steps
    return number == rest if modulus == 0 else (number - rest) % modulus == 0


def solve_one(coefficient, modulus, rest):
    """Return the progression of the integers x for which the equation holds, or None if there are none.

    The coefficient times x, minus the rest, is a multiple of the modulus.
    """
    common, inverse, _ = bezout(coefficient, modulus)
    if common == 0:
        return (1, 0) if rest == 0 else None
    if rest % common != 0:
        return None
    return progression(modulus // common, rest // common * inverse)


def meet(*progressions):
    """Return the progression of the integers that belong to all progressions, or None."""
    modulus, rest = 1, 0
    for own_modulus, own_rest in progressions:
        found = solve_one(modulus, own_modulus, own_rest - rest)
        if found is None:
            return None
        modulus, rest = progression(modulus * found[0], rest + modulus * found[1])
    return modulus, rest


def bezout(first, second):
    """Return the greatest common divisor of two integers, and a factor for each so that the products add up to it."""
    row = first, 1, 0
    other = second, 0, 1
    while other[0] != 0:
        many = row[0] // other[0]
        row, other = other, tuple([its - many * own for its, own in zip(row, other)])
    return row if row[0] >= 0 else tuple([-number for number in row])
