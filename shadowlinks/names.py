"""Plain names, full names and their order."""

LETTERS = "abcdefghijklmnopqrstuvwxyz"
LETTERS_AND_DIGITS = "abcdefghijklmnopqrstuvwxyz0123456789"
LONGEST = 8


def is_name(text):
    """Return True if the string is a plain name, otherwise False."""
    if text == "" or len(text) > LONGEST:
        return False
    return text[0] in LETTERS and all([letter in LETTERS_AND_DIGITS for letter in text])


def is_full_name(text):
    """Return True if the string is a full name, otherwise False."""
    return all([is_name(piece) for piece in text.split(".")])


def is_ascending(values):
    """Return True if each of the names or tuples is greater than the one before it, otherwise False."""
    return list(values) == sorted(set(values))


def are_full_names(names):
    """Return True if the strings are full names in ascending order, otherwise False."""
    return all([is_full_name(name) for name in names]) and is_ascending(names)


def merge_names(*lists):
    """Return the names of all lists in ascending order."""
    return tuple(sorted(set([name for names in lists for name in names])))


def replace_names(names, table):
    """Return a list of the names, in which each one that is a key of the dict is replaced by its value."""
    return [table.get(name, name) for name in names]
