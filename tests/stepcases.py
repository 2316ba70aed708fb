"""Theories of the kind steps for the tests, and their greatest differences by another way."""

import random

SPECIAL = (
    ((), ()),
    ((), (("", "", -1),)),
    ((), (("", "", 0), ("", "", 7))),
    (("a",), ()),
    (("a", "b"), ()),
    (("a",), (("a", "", 3),)),
    (("a",), (("", "a", 3),)),
    (("a",), (("a", "", 3), ("", "a", -3))),
    (("a",), (("a", "", 2), ("", "a", -3))),
    (("a", "b"), (("a", "b", 3), ("b", "a", -3))),
    (("a", "b"), (("a", "b", 2), ("b", "a", -3))),
    (("a", "b"), (("a", "b", 5), ("a", "b", 4), ("a", "b", 6), ("", "", -2))),
    (("a", "b", "c"), (("a", "b", 3), ("b", "c", -1), ("c", "", 5))),
    (("a", "b", "c"), (("a", "b", 1), ("b", "c", 1), ("c", "a", -3))),
    (("a", "b.x", "c"), (("", "a", 0), ("a", "b.x", -1), ("b.x", "c", -1), ("c", "", 9))),
)


def made_theories(seed, count, most=4):
    maker = random.Random(seed)
    for number in range(count):
        names = tuple("abcd"[:number % (most + 1)])
        places = ("", *names)
        constraints = []
        for _ in range(maker.randrange(9)):
            x, y = maker.choice(places), maker.choice(places)
            if x == y:
                x = y = ""
            low = -4 if x != y and maker.randrange(2) else 0
            constraints.append((x, y, maker.randrange(low, 9)))
        yield names, tuple(constraints)


THEORIES = (*SPECIAL, *made_theories(1, 25, 3))


def places_of(theory):
    return ("", *theory[0])


def sums(theory):
    """The least sums of chains of at most as many constraints as there are places, None without a chain."""
    places = places_of(theory)
    found = {(x, y): 0 if x == y else None for x in places for y in places}
    for _ in range(len(places) + 1):
        for x in places:
            for u, v, c in theory[1]:
                way = found[x, u]
                if way is not None and (found[x, v] is None or way + c < found[x, v]):
                    found[x, v] = way + c
    return found


def is_satisfiable(theory):
    return all(sums(theory)[x, x] >= 0 for x in places_of(theory))
