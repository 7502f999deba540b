"""Digits and rows, and their texts."""

from linkbooks.base.kinds import Kinds
from linkbooks.base.lines import names_in, text_of, words_of
from linkbooks.base.ranks import sums_by_rank
from linkbooks.base.words import is_sorted
from linkbooks.errors import InvalidKinds, InvalidRow, ParseError

MAX_DIGIT = 3
MAX_RANKS = 400

# A new row can be larger than a row that is passed: a digit of it is what was in a pool, and the machine goes on above
# the last digit as long as trees are carried.
LOOSE_DIGIT = 20
_LOOSE_RANKS = 402


def are_digits(value):
    """Whether the value is a tuple of sorted tuples of at most 20 names; of any length, also with empty ones at its
    end."""
    return isinstance(value, tuple) and all([is_sorted(digit, most=LOOSE_DIGIT) for digit in value])


def are_loose_digits(value):
    """Whether the value is a loose row but for empty digits at its end."""
    return isinstance(value, tuple) and len(value) <= _LOOSE_RANKS and are_digits(value)


def digit_at(digits, rank):
    """The digit at a rank, empty above all digits."""
    return digits[rank] if rank < len(digits) else ()


def merged(one, other):
    """The digit with the kinds of two digits."""
    return tuple(sorted(one + other))


def _check_kinds(kinds):
    """Refuse what are no kinds."""
    if not isinstance(kinds, Kinds):
        raise InvalidKinds("these are no kinds")


def _check_loose(row):
    """Refuse what is no loose row."""
    if not is_loose(row):
        raise InvalidRow("this is no loose row")


def is_digit(value):
    """Whether the value is a digit of any names."""
    return is_sorted(value, most=MAX_DIGIT)


def is_loose(value):
    """Whether the value is a loose row."""
    return are_loose_digits(value) and value[-1:] != ((),)


def is_row(kinds, value):
    """Whether the value is a row of the kinds with at most 400 digits."""
    _check_kinds(kinds)
    if not is_loose(value) or len(value) > MAX_RANKS:
        return False
    if not all([is_digit(digit) for digit in value]):
        return False
    sizes = sums_by_rank(kinds.leaf, kinds.makings, len(value))
    return all([name in here for digit, here in zip(value, sizes) for name in digit])


def write_digit(digit):
    """The text of a sorted tuple of at most 20 names."""
    if not is_sorted(digit, most=LOOSE_DIGIT):
        raise InvalidRow("this is no sorted tuple of at most 20 names")
    return text_of(digit)


def read_digit(text):
    """The sorted tuple of at most 20 names with a text."""
    digit = names_in(text, most=LOOSE_DIGIT)
    if digit is None:
        raise ParseError(None)
    return digit


def write_row(row):
    """The text of a loose row."""
    _check_loose(row)
    return " ".join([text_of(digit) for digit in row]) if row else "-"


def read_row(text):
    """The loose row with a text."""
    if text == "-":
        return ()
    row = tuple([names_in(word, most=LOOSE_DIGIT) for word in words_of(text)])
    if not row or not is_loose(row):
        raise ParseError(None)
    return row


def trimmed(digits):
    """The digits without the empty ones at their end."""
    if not are_digits(digits):
        raise InvalidRow("this is no tuple of sorted tuples of at most 20 names")
    many = len(digits)
    while many > 0 and not digits[many - 1]:
        many -= 1
    return digits[:many]


def keys_of(kinds, row):
    """The number of keys of a loose row all kinds of which exist at their ranks."""
    _check_kinds(kinds)
    _check_loose(row)
    sizes = sums_by_rank(kinds.leaf, kinds.makings, len(row))
    if not all([name in here for digit, here in zip(row, sizes) for name in digit]):
        raise InvalidRow("a kind does not exist at its rank")
    return sum([here[name] for digit, here in zip(row, sizes) for name in digit])


def trees_of(row):
    """The number of kinds in a loose row."""
    _check_loose(row)
    return sum([len(digit) for digit in row])


def added(one, other):
    """The loose row with the digits of two loose rows put together, without any machine."""
    _check_loose(one)
    _check_loose(other)
    ranks = max(len(one), len(other))
    row = tuple([merged(digit_at(one, rank), digit_at(other, rank)) for rank in range(ranks)])
    if not is_loose(row):
        raise InvalidRow("a digit would have more than 20 names")
    return row
