"""What the tests of written forms share: validity by the points 5 to 10, and texts that are almost right."""

import random

from shadowlinks.errors import InvalidText
from shadowlinks.names import is_full_name

LONG = 123456789012345678901234567890123456789012345678901234567890
CHARACTERS = " -+=<:!.,/0123ab"


def ascend(names):
    return all(is_full_name(name) for name in names) and all(a < b for a, b in zip(names, names[1:]))


def whole(number):
    return number.__class__ is int


def bits_valid(constraint):
    return ascend([name for name, _ in constraint]) and all(sign in (0, 1) for _, sign in constraint)


def steps_valid(constraint):
    x, y, c = constraint
    sides = [side for side in (x, y) if side]
    return all(map(is_full_name, sides)) and (x != y or not sides) and whole(c)


def terms_valid(terms):
    return ascend([name for name, _ in terms]) and all(whole(number) and number for _, number in terms)


def lines_valid(constraint):
    terms, sign, bound = constraint
    return terms_valid(terms) and sign in ("<=", "=") and whole(bound)


def wholes_valid(constraint):
    terms, modulus, rest = constraint
    return terms_valid(terms) and whole(modulus) and modulus >= 0 and whole(rest)


def rows_valid(constraint):
    names, table = constraint
    rows = all(len(row) == len(names) and all(value in (0, 1, 2) for value in row) for row in table)
    return ascend(names) and rows and all(a < b for a, b in zip(table, table[1:]))


def words_valid(constraint):
    names, moves, ends = constraint
    right = all(
        len(row) == 2 ** len(names) and all(-1 <= move < len(moves) for move in row) for row in moves
    )
    return ascend(names) and right and 1 <= len(moves) == len(ends) and all(end in (0, 1) for end in ends)


VALID = {
    "bits": bits_valid, "steps": steps_valid, "lines": lines_valid, "wholes": wholes_valid, "rows": rows_valid,
    "words": words_valid,
}
CONSTRAINTS = {
    "bits": ((), (("a", 1),), (("a", 0),), (("a", 1), ("a.b", 0), ("b", 1)), (("gate.x1", 0), ("p.q.x", 1))),
    "steps": (
        ("a", "b", 3), ("b", "a", -3), ("", "b", -3), ("a", "", 0), ("", "", -1), ("", "", 5), ("p.x", "q", -LONG),
        ("", "z9", LONG),
    ),
    "lines": (
        ((), "=", 0), ((), "<=", -1), ((("x", 1),), "<=", -5), ((("x", 2), ("y", -3)), "<=", 4),
        ((("a", -1), ("a.b", 9), ("mod", LONG)), "=", -LONG),
    ),
    "wholes": (
        ((), 0, 1), ((), 0, 0), ((), 7, 12), ((("x", 2),), 5, 1), ((("x", 1),), 0, -4), ((("x", 1),), 1, 0),
        ((("mod", -1),), 0, 3), ((("mod", 2), ("x", -3)), 3, -99), ((("a", LONG),), LONG, -LONG),
    ),
    "rows": (
        ((), ()), ((), ((),)), (("a",), ()), (("a",), ((0,), (1,), (2,))), (("a", "b"), ((0, 0), (1, 2))),
        (("a", "a.b", "c"), ((0, 2, 1), (2, 0, 0), (2, 0, 1))),
    ),
    "words": (
        ((), ((-1,),), (0,)), ((), ((0,),), (1,)), ((), ((1,), (0,)), (1, 0)), (("x",), ((0, -1), (1, 1)), (1, 0)),
        (("x", "y.z"), ((0, 1, 2, -1), (-1, -1, -1, -1), (2, 0, 1, 1)), (0, 1, 1)),
        (("x",), tuple((11 - k, k) for k in range(12)), (0, 1) * 6),
    ),
}


def neighbours(text, seed):
    """Texts that differ from the text in little: an inserted, dropped or changed character, tokens moved."""
    for at in range(len(text) + 1):
        for character in CHARACTERS:
            yield text[:at] + character + text[at:]
            if at < len(text):
                yield text[:at] + character + text[at + 1:]
        yield text[:at] + text[at + 1:]
    tokens = text.split(" ")
    maker = random.Random(seed)
    for at in range(len(tokens)):
        yield " ".join(tokens[:at] + tokens[at + 1:])
        yield " ".join(tokens[:at] + [tokens[at]] + tokens[at:])
    for _ in range(20):
        maker.shuffle(tokens)
        yield " ".join(tokens)


def check_forms(test, word, parse, write):
    """Every constraint is read back, and whatever is read is valid and has the text as its written form."""
    for constraint in CONSTRAINTS[word]:
        text = write(constraint)
        test.assertIs(text.__class__, str)
        test.assertEqual(parse(text, line=9), constraint)
        test.assertEqual(parse(text), constraint)
        for other in neighbours(text, 5):
            try:
                found = parse(other, line=9)
            except InvalidText as error:
                test.assertEqual(error.line, 9)
            else:
                test.assertTrue(VALID[word](found), other)
                test.assertEqual(write(found), other)


def check_bad(test, parse, texts):
    """None of the texts is read, and the error has the number that was passed, or 1."""
    for text in texts:
        with test.assertRaises(InvalidText, msg=repr(text)) as caught:
            parse(text, line=23)
        test.assertEqual(caught.exception.line, 23)
        with test.assertRaises(InvalidText, msg=repr(text)) as caught:
            parse(text)
        test.assertEqual(caught.exception.line, 1)


def check_tuples(test, value):
    """The value has no lists in it."""
    test.assertIn(value.__class__, (tuple, str, int))
    if value.__class__ is tuple:
        for item in value:
            check_tuples(test, item)
