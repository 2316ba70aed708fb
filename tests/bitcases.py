"""Theories of the kind bits for the tests, and their solutions by trying."""

import random
from itertools import product

A, B, C = ("a", 1), ("b", 1), ("c", 1)
NOT_A, NOT_B, NOT_C = ("a", 0), ("b", 0), ("c", 0)


def all_clauses(names):
    for signs in product((None, 0, 1), repeat=len(names)):
        yield tuple((name, sign) for name, sign in zip(names, signs) if sign is not None)


def all_assignments(names):
    return [dict(zip(names, values)) for values in product((0, 1), repeat=len(names))]


def solutions(theory):
    return [one for one in all_assignments(theory[0]) if all(any(one[n] == s for n, s in c) for c in theory[1])]


def holds_in(clause, assignments):
    return all(any(one[name] == sign for name, sign in clause) for one in assignments)


def made_clause(maker, names, size):
    return tuple((name, maker.randrange(2)) for name in sorted(maker.sample(names, min(size, len(names)))))


def made_theories(seed, count, most=4):
    maker = random.Random(seed)
    for number in range(count):
        names = tuple("abcde"[:number % (most + 1)])
        sizes = [maker.randrange(1, 4) for _ in range(maker.randrange(9))]
        yield names, tuple(made_clause(maker, names, size) for size in sizes if names)


SPECIAL = (
    ((), ()),
    ((), ((),)),
    ((), ((), ())),
    (("a",), ()),
    (("a",), ((A,), (NOT_A,))),
    (("a", "b"), ((),)),
    (("a", "b"), ((A, B), (A,), (A, B), (A,))),
    (("a", "b"), ((A, B), (NOT_A, B), (A, NOT_B), (NOT_A, NOT_B))),
    (("a", "b", "c"), ((A, NOT_B), (B, NOT_C), (NOT_A, C))),
    (("a", "b.x", "c"), ((A, ("b.x", 0)), (("b.x", 1), C))),
)
THEORIES = (*SPECIAL, *made_theories(1, 25, 3))
