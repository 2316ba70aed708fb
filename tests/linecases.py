"""Theories of the kind lines for the tests, and what follows from them by another way."""

import random
from fractions import Fraction
from itertools import combinations


def le(bound, **numbers):
    """The constraint that the sum with these coefficients is at most the bound."""
    return tuple(sorted(numbers.items())), "<=", bound


def eq(bound, **numbers):
    """The constraint that the sum with these coefficients equals the bound."""
    return tuple(sorted(numbers.items())), "=", bound


def terms(**numbers):
    return tuple(sorted(numbers.items()))


EXAMPLE = (("x", "y"), (le(4, x=1, y=1), le(-4, x=-1, y=-1), le(3, x=1), le(8, x=2)))
SPECIAL = (
    ((), ()),
    ((), (le(-1),)),
    ((), (le(0), eq(0), le(5))),
    ((), (eq(3),)),
    (("x",), ()),
    (("x", "y"), ()),
    (("x",), (le(3, x=1),)),
    (("x",), (le(3, x=-2), le(6, x=4), le(9, x=6))),
    (("x",), (eq(3, x=2),)),
    (("x",), (le(2, x=1), le(-3, x=-1))),
    (("x", "y"), (eq(6, x=2, y=-4), eq(9, x=3, y=-6))),
    (("x", "y"), (eq(6, x=2, y=-4), eq(8, x=3, y=-6))),
    EXAMPLE,
    (("x", "y", "z"), (eq(6, x=1, y=1, z=1), eq(2, x=1, y=-1), le(0, z=-1), le(9, y=1))),
    (("x", "y"), (le(1, x=1), le(1, y=1), le(2, x=1, y=1), le(1, x=1, y=1))),
    (("x", "y.z"), (((("x", 3), ("y.z", -2)), "<=", 7), ((("x", -3), ("y.z", 2)), "<=", -7), eq(1, x=1))),
)


def made_theories(seed, count, most=3, size=6):
    maker = random.Random(seed)
    for number in range(count):
        names = tuple("xyzw"[:number % (most + 1)])
        constraints = []
        for _ in range(maker.randrange(size)):
            chosen = sorted(maker.sample(names, maker.randrange(len(names) + 1)))
            sum_of = tuple((name, maker.choice((-3, -2, -1, 1, 1, 2, 3))) for name in chosen)
            sign = "=" if maker.randrange(4) == 0 else "<="
            constraints.append((sum_of, sign, maker.randrange(-5 if sum_of else -1, 6)))
        yield tuple(sorted(names)), tuple(constraints)


THEORIES = (*SPECIAL, *made_theories(1, 25, 3))


def negated(sum_of):
    return tuple((name, -number) for name, number in sum_of)


def inequalities(constraint):
    sum_of, sign, bound = constraint
    return [(sum_of, bound)] if sign == "<=" else [(sum_of, bound), (negated(sum_of), -bound)]


def has_solution(names, rows):
    """Whether rows (terms, bound, strict) have a common solution, by eliminating one name after another."""
    rows = {(tuple(sorted(sum_of)), Fraction(bound), strict) for sum_of, bound, strict in rows}
    for name in names:
        kept, above, below = [], [], []
        for sum_of, bound, strict in rows:
            number = dict(sum_of).get(name, 0)
            (kept if number == 0 else above if number > 0 else below).append((dict(sum_of), bound, strict))
        for first, high, strict in above:
            for second, low, other in below:
                up, down = -second[name], first[name]
                both = {n: up * first.get(n, 0) + down * second.get(n, 0) for n in {*first, *second}}
                kept.append((both, up * high + down * low, strict or other))
        rows = set()
        for sum_of, bound, strict in kept:
            some = sorted((n, Fraction(c)) for n, c in sum_of.items() if c != 0)
            scale = abs(some[0][1]) if some else 1
            rows.add((tuple((n, c / scale) for n, c in some), bound / scale, strict))
    return all(bound > 0 or (bound == 0 and not strict) for _, bound, strict in rows)


def rows_of(theory):
    return [(sum_of, bound, False) for constraint in theory[1] for sum_of, bound in inequalities(constraint)]


def is_satisfiable(theory):
    return has_solution(theory[0], rows_of(theory))


def does_follow(theory, constraint):
    for sum_of, bound in inequalities(constraint):
        if has_solution(theory[0], [*rows_of(theory), (negated(sum_of), -bound, True)]):
            return False
    return True


def meeting(names, rows):
    """The only common solution of as many equations as there are names, or None."""
    rows = [[Fraction(dict(row[0]).get(name, 0)) for name in names] + [Fraction(row[2])] for row in rows]
    for at in range(len(names)):
        lead = next((k for k in range(at, len(rows)) if rows[k][at] != 0), None)
        if lead is None:
            return None
        rows[at], rows[lead] = rows[lead], rows[at]
        rows[at] = [number / rows[at][at] for number in rows[at]]
        for k, row in enumerate(rows):
            if k != at:
                rows[k] = [number - row[at] * own for number, own in zip(row, rows[at])]
    return tuple(row[-1] for row in rows)


def is_right(names, constraint, values):
    value = sum(Fraction(number) * values[names.index(name)] for name, number in constraint[0])
    return value == constraint[2] or (constraint[1] == "<=" and value < constraint[2])


def meetings(theory):
    """The meetings of constraints that are solutions, in ascending order."""
    names, constraints = theory
    points = {meeting(names, rows) for rows in combinations(constraints, len(names))} - {None}
    return sorted(point for point in points if all(is_right(names, one, point) for one in constraints))


def cut_boxes(seed, count):
    """Boxes with one to three more inequalities."""
    maker = random.Random(seed)
    for at in range(count):
        names = ("x", "y", "z")[:2 + at % 2]
        found = [(((name, sign),), "<=", maker.randrange(4)) for name in names for sign in (-1, 1)]
        for _ in range(1 + at % 3):
            one = tuple((name, maker.choice((-3, -2, -1, 1, 2, 3))) for name in names)
            found.append((one, "<=", maker.randrange(-1, 5)))
        maker.shuffle(found)
        yield names, tuple(found)
