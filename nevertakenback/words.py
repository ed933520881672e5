"""What integers, fractions, ticks and names are, as values and as words of a text."""

from math import gcd

from nevertakenback.exact import is_at_most

LETTERS = "abcdefghijklmnopqrstuvwxyz"


def is_integer(value):
    """Whether any value is an integer."""
    return isinstance(value, int) and not isinstance(value, bool)


def is_integer_from(value, least, most):
    """Whether any value is an integer from least to most."""
    return is_integer(value) and least <= value <= most


def is_tick(value):
    """Whether any value is a tick."""
    return is_integer_from(value, 0, 99999)


def is_pair(value):
    """Whether any value is a tuple of two."""
    return isinstance(value, tuple) and len(value) == 2


def is_fraction(value):
    """Whether any value is a fraction."""
    if not is_pair(value) or not is_integer(value[0]) or not is_integer(value[1]):
        return False
    return value[1] >= 1 and gcd(value[0], value[1]) == 1


def is_time(value):
    """Whether any value is a time."""
    return is_fraction(value) and value[0] >= 0


def is_row(value, many):
    """Whether any value is a tuple of so many fractions from 0 on."""
    return isinstance(value, tuple) and len(value) == many and all([is_time(part) for part in value])


def is_stretch(p, q):
    """Whether any two values are the fractions that a stretch line may tell."""
    if not is_fraction(p) or not is_fraction(q):
        return False
    return p[0] > 0 and is_at_most(p, (1, 1)) and is_at_most((1, 1), q) and is_at_most(q, (99, 1))


def is_name(value):
    """Whether any value is a name."""
    if not isinstance(value, str) or not 1 <= len(value) <= 6:
        return False
    return all([sign in LETTERS for sign in value])


def read_integer(word):
    """The integer that a word tells, None if it is not written as Python writes one."""
    try:
        number = int(word)
    except ValueError:
        return None
    # int also takes words like +1, 007 and 1_000, which Python never writes.
    return number if str(number) == word else None


def read_fraction(word):
    """The fraction that a word tells, None if it is not written as fractions are."""
    top, bar, bottom = word.partition("/")
    if bottom == "1":
        return None
    value = (read_integer(top), read_integer(bottom) if bar else 1)
    return value if is_fraction(value) else None


def write_fraction(value):
    """The word that tells a fraction."""
    return str(value[0]) if value[1] == 1 else f"{value[0]}/{value[1]}"
