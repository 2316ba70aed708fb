"""Theories of the kind wholes for the tests, and an own check of certificates."""

import random


def mod(rest, modulus, **numbers):
    """The constraint that the sum with these coefficients equals the rest, up to multiples of the modulus."""
    return tuple(sorted(numbers.items())), modulus, rest


def eq(rest, **numbers):
    return mod(rest, 0, **numbers)


def terms(**numbers):
    return tuple(sorted(numbers.items()))


XY = ("x", "y")
EXAMPLE = (XY, (eq(0, x=2, y=-1),))
SPECIAL = (
    ((), ()),
    ((), (eq(1),)),
    ((), (eq(0), mod(8, 4), mod(3, 1))),
    ((), (mod(7, 4),)),
    (("x",), ()),
    (("x", "y"), ()),
    (("x",), (eq(6, x=-2),)),
    (("x",), (eq(7, x=2),)),
    (("x",), (mod(1, 5, x=2),)),
    (("x",), (mod(1, 4, x=2),)),
    (("x",), (mod(1, 4, x=1), mod(3, 6, x=1))),
    (("x",), (mod(1, 4, x=1), mod(2, 6, x=1))),
    (("x",), (mod(9, 1, x=5),)),
    EXAMPLE,
    (("x", "y"), (eq(1, x=6, y=10),)),
    (("x", "y"), (eq(4, x=6, y=10), mod(1, 3, x=1, y=1))),
    (("x", "y", "z"), (mod(1, 2, x=1, y=1), mod(0, 3, y=1, z=2), mod(5, 12, x=3, z=9))),
    (("x", "y", "z"), (eq(3, x=1, y=2, z=3), eq(1, x=2, y=-1), mod(0, 2, z=1))),
    (("x", "y.z"), (((("x", 4), ("y.z", -6)), 0, 2), ((("y.z", 3),), 9, 3))),
)


def is_multiple(number, modulus):
    return number == 0 if modulus == 0 else number % modulus == 0


def made_theories(seed, count, most=3, size=6):
    maker = random.Random(seed)
    for number in range(count):
        names = tuple("wxyz"[:number % (most + 1)])
        constraints = []
        for _ in range(maker.randrange(size)):
            chosen = sorted(maker.sample(names, maker.randrange(len(names) + 1)))
            sum_of = tuple((name, maker.choice((-4, -3, -2, -1, 1, 2, 3, 4))) for name in chosen)
            modulus = 0 if maker.randrange(3) == 0 else maker.randrange(1, 13)
            rest = maker.randrange(-9, 10)
            if maker.randrange(3):
                # So that many of the theories have a solution.
                rest = sum(number * (ord(name) - 119) for name, number in sum_of) + maker.randrange(-1, 2) * modulus
            constraints.append((sum_of, modulus, rest))
        yield names, tuple(constraints)


THEORIES = (*SPECIAL, *made_theories(1, 25, 3))


def is_shown(theory, constraint, certificate):
    """Point 73, for a certificate with as many weights as there are constraints."""
    divisor, scale, weights = certificate
    wanted, modulus, rest = constraint
    names = theory[0]
    added = {name: sum(dict(one).get(name, 0) * w for (one, _, _), w in zip(theory[1], weights)) for name in names}
    added_rest = sum(own * weight for (_, _, own), weight in zip(theory[1], weights))
    congruences = [(own, weight) for (_, own, _), weight in zip(theory[1], weights) if own >= 1]
    if divisor == 0 and scale >= 1:
        zeros = all(weight == 0 for _, weight in congruences)
        return zeros and all(added[n] == scale * dict(wanted).get(n, 0) for n in names) and added_rest == scale * rest
    if divisor < 1 or scale < 0 or not all(own * weight % divisor == 0 for own, weight in congruences):
        return False
    if scale == 0:
        return all(added[name] % divisor == 0 for name in names) and added_rest % divisor != 0
    fits = all((added[name] - scale * dict(wanted).get(name, 0)) % divisor == 0 for name in names)
    return divisor == scale * modulus and fits and (added_rest - scale * rest) % divisor == 0
