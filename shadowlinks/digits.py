"""The written form of integers, and lines with their numbers."""

from shadowlinks.errors import InvalidText

DIGITS = "0123456789"


def is_number(text):
    """Return True if the string is the written form of an integer, otherwise False."""
    if text == "0":
        return True
    digits = text.removeprefix("-")
    if digits == "" or digits[0] == "0":
        return False
    return all([digit in DIGITS for digit in digits])


def parse_number(text, *, line=1):
    """Return the integer with this written form."""
    if not is_number(text):
        raise InvalidText(line)
    return int(text)


def number_lines(lines, *, first=1):
    """Return the lines, each behind its number, a colon and a space."""
    width = len(str(first + len(lines) - 1))
    return tuple([f"{number:>{width}}: {line}" for number, line in enumerate(lines, start=first)])
