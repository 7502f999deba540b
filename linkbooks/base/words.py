"""What integers, names and sorted tuples of names are."""

from linkbooks.errors import InvalidNumber

MAX_LETTERS = 8
MAX_FIGURES = 60

# The least integer with more than MAX_FIGURES digits.
_TOO_LONG = 10 ** 60


def is_integer(value):
    """Whether the value is an integer of at most sixty digits."""
    if not isinstance(value, int) or isinstance(value, bool):
        return False
    return -_TOO_LONG < value < _TOO_LONG


def is_count(value):
    """Whether the value is such an integer of at least 0."""
    return is_integer(value) and value >= 0


def is_name(value):
    """Whether the value is a name."""
    if not isinstance(value, str) or not 1 <= len(value) <= MAX_LETTERS:
        return False
    return value.isascii() and value.isalpha() and value.islower()


def is_sorted(value, *, most):
    """Whether the value is a sorted tuple of at most so many names."""
    if not is_count(most):
        raise InvalidNumber(most)
    if not isinstance(value, tuple) or len(value) > most:
        return False
    if not all([is_name(name) for name in value]):
        return False
    return list(value) == sorted(value)
