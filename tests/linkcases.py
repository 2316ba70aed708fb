"""Parts and links of all kinds for the tests."""

import random
from itertools import product

from shadowlinks.bits import Bits
from shadowlinks.lines import Lines
from shadowlinks.links import Link
from shadowlinks.parts import Part
from shadowlinks.rows import Rows
from shadowlinks.steps import Steps
from shadowlinks.wholes import Wholes
from shadowlinks.words import Words

BITS, STEPS, LINES, WHOLES, ROWS, WORDS = KINDS = (Bits(), Steps(), Lines(), Wholes(), Rows(), Words())
VALUES = {
    "bits": (0, 1), "steps": (0, 5), "lines": ((0, 1), (1, 2)), "wholes": (0, -3), "rows": (0, 2), "words": ("a", "b"),
}
NUMBERS = (-3, -2, -1, 1, 1, 2, 3)


def fixed(kind, name, which):
    """Constraints that give the name one of two values."""
    return kind.pin((name,), assigned(kind, **{name: which}))[1]


def assigned(kind, **numbers):
    """An assignment of the names, each of them with one of two values."""
    found = {name.replace("_", "."): VALUES[kind.WORD][which] for name, which in numbers.items()}
    return {"": 1, **found} if kind.WORD == "words" else found


def same(kind, x, y):
    """Constraints that give two names, in ascending order, the same value."""
    return {
        "bits": (((x, 0), (y, 1)), ((x, 1), (y, 0))),
        "steps": ((x, y, 0), (y, x, 0)),
        "lines": ((((x, 1), (y, -1)), "=", 0),),
        "wholes": ((((x, 1), (y, -1)), 0, 0),),
        "rows": (((x, y), ((0, 0), (1, 1), (2, 2))),),
        "words": (((x, y), ((0, -1, -1, 0),), (1,)),),
    }[kind.WORD]


def always(kind):
    """A constraint without names that always holds."""
    return {
        "bits": None, "steps": ("", "", 0), "lines": ((), "<=", 0), "wholes": ((), 0, 0), "rows": ((), ((),)),
        "words": ((), ((0,),), (1,)),
    }[kind.WORD]


def part(kind, name, shown, hidden, *constraints):
    return Part(kind.WORD, name, shown.split(), hidden.split(), constraints)


def chain(kind, ends=(0, 1)):
    """Three parts: a has a value, a and c are the same by a hidden name of each, and c has a value."""
    return Link(kind, [
        part(kind, "left", "a", "h", *same(kind, "a", "h"), *fixed(kind, "h", ends[0])),
        part(kind, "wire", "a c", "h", *same(kind, "a", "h"), *same(kind, "c", "h")),
        part(kind, "right", "c", "", *fixed(kind, "c", ends[1])),
    ])


def made_terms(maker, names):
    chosen = sorted(maker.sample(names, maker.randrange(1, len(names) + 1)))
    return tuple((name, maker.choice(NUMBERS)) for name in chosen)


def made_table(maker, names):
    own = tuple(sorted(maker.sample(names, maker.randrange(1, min(3, len(names)) + 1))))
    return own, tuple(row for row in product((0, 1, 2), repeat=len(own)) if maker.random() < 0.7)


def made_machine(maker, names):
    own = tuple(sorted(maker.sample(names, maker.randrange(1, min(2, len(names)) + 1))))
    count = maker.randrange(1, 3)
    moves = [[maker.randrange(-1, count) for _ in range(2 ** len(own))] for _ in range(count)]
    return own, tuple(tuple(row) for row in moves), tuple(maker.randrange(3) and 1 for _ in range(count))


def made_constraint(maker, kind, names):
    """A constraint about some of the names, of which there is at least one."""
    if kind.WORD == "bits":
        own = sorted(maker.sample(names, maker.randrange(1, min(3, len(names)) + 1)))
        return tuple((name, maker.randrange(2)) for name in own)
    if kind.WORD == "steps":
        x, y = maker.sample(["", *names], 2)
        return x, y, maker.randrange(-3, 9)
    if kind.WORD == "lines":
        return made_terms(maker, names), maker.choice(("<=", "<=", "<=", "=")), maker.randrange(-3, 9)
    if kind.WORD == "wholes":
        return made_terms(maker, names), maker.choice((0, 2, 2, 3, 4, 6)), maker.choice((0, 0, 0, 0, 2, 3))
    return made_table(maker, names) if kind.WORD == "rows" else made_machine(maker, names)


def made_part(maker, kind, name, letters="abc", most=4):
    shown = maker.sample(letters, maker.randrange(len(letters) + 1))
    hidden = maker.sample(("h", "k", "a.x", "z"), maker.randrange(2 if kind.WORD == "words" else 3))
    names = [*shown, *hidden]
    if kind.WORD == "words":
        most = 2
    constraints = [made_constraint(maker, kind, names) for _ in range(maker.randrange(most + 1)) if names]
    if shown and maker.randrange(3) == 0:
        constraints[:1] = fixed(kind, shown[0], maker.randrange(2))
    return Part(kind.WORD, name, shown, hidden, constraints)


def made_links(kind, seed, count, most=4):
    """Links of no, one and several parts."""
    maker = random.Random(seed)
    for number in range(count):
        parts = [made_part(maker, kind, name) for name in ("p", "q", "r", "s")[:number % (most + 1)]]
        maker.shuffle(parts)
        yield Link(kind, parts)


def limit_part(maker, kind, name, shown, many):
    """A part with as many names and constraints as point 24 allows."""
    most = {"bits": 5, "rows": 5, "words": 3}.get(kind.WORD, 4)
    own = maker.sample(shown, maker.randrange(1, most - many + 1))
    names = [*own, *(f"h{at}" for at in range(many))]
    count = 2 if kind.WORD == "words" else 8
    return Part(kind.WORD, name, own, names[len(own):], [limit_constraint(maker, kind, names) for _ in range(count)])


def limit_constraint(maker, kind, names):
    if kind.WORD == "bits":
        own = sorted(maker.sample(names, maker.randrange(min(2, len(names)), len(names) + 1)))
        return tuple((name, maker.randrange(2)) for name in own)
    if kind.WORD == "steps":
        return *maker.sample(["", *names], 2), maker.randrange(-9, 100)
    terms = tuple((name, maker.choice((-9, -7, -5, -2, 3, 4, 8))) for name in sorted(names))
    if kind.WORD == "lines":
        return terms, "<=", maker.randrange(0, 100)
    if kind.WORD == "wholes":
        return terms, maker.choice((2, 3, 4, 6, 8, 9, 12)), 0
    own = tuple(sorted(names))
    if kind.WORD == "rows":
        return own, tuple(row for row in product((0, 1, 2), repeat=len(own)) if maker.random() < 0.8)
    moves = [[maker.randrange(3) for _ in range(2 ** len(own))] for _ in range(3)]
    return own, tuple(tuple(row) for row in moves), (1, maker.randrange(2), 0)


def limit_links(kind, seed, count, hidden=(2, 2, 1, 1)):
    """Links of four parts with five names in the interface and so many hidden names."""
    maker = random.Random(seed)
    for _ in range(count):
        parts = [limit_part(maker, kind, f"p{at}", "abcde", many) for at, many in enumerate(hidden)]
        yield Link(kind, parts)
