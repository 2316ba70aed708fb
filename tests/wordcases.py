"""Theories of the kind words for the tests, and their solutions by trying."""

import random
from itertools import product

ANY, NONE = ((), ((0,),), (1,)), ((), ((-1,),), (0,))
EVEN_GROUND = ((), ((1,), (0,)), (1, 0))
# x is ab repeated, or the empty word.
REPEATED = (("x",), ((1, -1), (-1, 0)), (1, 0))
# x and y differ at one index at least.
DIFFERENT = (("x", "y"), ((0, 1, 1, 0), (1, 1, 1, 1)), (0, 1))
# y has b wherever x has b.
UNDER = (("x", "y"), ((0, 0, -1, 0),), (1,))


def made_machine(maker, names, most=3):
    own = tuple(sorted(maker.sample(names, maker.randrange(min(2, len(names)) + 1))))
    count = maker.randrange(1, most + 1)
    holes = maker.choice((0, 0.2, 0.4))
    moves = tuple(
        tuple(-1 if maker.random() < holes else maker.randrange(count) for _ in range(2 ** len(own)))
        for _ in range(count)
    )
    return own, moves, tuple(maker.randrange(2) for _ in range(count))


def made_theories(seed, count, most=2):
    maker = random.Random(seed)
    for number in range(count):
        names = tuple("xyz"[:number % (most + 1)])
        yield names, tuple(made_machine(maker, names) for _ in range(maker.randrange(3)))


SPECIAL = (
    ((), ()),
    ((), (NONE,)),
    ((), (EVEN_GROUND,)),
    ((), (EVEN_GROUND, ((), ((1,), (1,)), (0, 1)))),
    ((), (EVEN_GROUND, ((), ((1,), (0,)), (0, 1)))),
    (("x",), ()),
    (("x",), (REPEATED,)),
    (("x",), (NONE, REPEATED)),
    (("x",), (ANY, REPEATED)),
    (("x", "y"), (DIFFERENT, UNDER)),
    (("x", "y"), (REPEATED, UNDER)),
    # A state that cannot be reached, one that leads to no end, and two that nothing tells apart.
    (("x",), ((("x",), ((1, 2), (2, 4), (1, 4), (0, 0), (4, 4)), (0, 1, 1, 1, 0)),)),
    (("x", "y.z"), ((("x", "y.z"), ((1, 0, -1, 0), (0, -1, 1, 1)), (0, 1)),)),
)
THEORIES = (*SPECIAL, *made_theories(1, 20))


def read(machine, assignment):
    """The last state, by point 10."""
    names, moves, _ = machine
    state = 0
    for index in range(assignment[""]):
        number = int("0" + "".join("01"[assignment[name][index] == "b"] for name in names), 2)
        state = moves[state][number]
        if state == -1:
            return -1
    return state


def does_hold(machine, assignment):
    state = read(machine, assignment)
    return state != -1 and machine[2][state] == 1


def all_words(length):
    return ["".join(letters) for letters in product("ab", repeat=length)]


def all_assignments(names, length):
    return [{"": length, **dict(zip(names, words))} for words in product(all_words(length), repeat=len(names))]


def solutions_of(theory, length):
    """All solutions with the ground, in ascending order of the words."""
    found = all_assignments(theory[0], length)
    return [one for one in found if all(does_hold(machine, one) for machine in theory[1])]


def longest(theory):
    """A ground up to which trying is quick."""
    return {0: 9, 1: 6, 2: 4}.get(len(theory[0]), 3)
