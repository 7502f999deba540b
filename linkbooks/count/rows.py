"""Right rows, counted and numbered by their keys."""

from linkbooks.base.rows import MAX_RANKS, keys_of
from linkbooks.base.words import is_count
from linkbooks.book.books import check_book
from linkbooks.count.sums import Sums, counts_by_rank, least_above, least_by_rank, trees_by_rank
from linkbooks.errors import InvalidNumber, InvalidRow


def _check_keys(book, keys):
    """Refuse what is no book, then what is no integer of at least 0."""
    check_book(book)
    if not is_count(keys):
        raise InvalidNumber(keys)


def _check_ranks(book, ranks):
    """Refuse what is no book, then what is no integer from 0 to 400."""
    check_book(book)
    if not is_count(ranks) or ranks > MAX_RANKS:
        raise InvalidNumber(ranks)


class RightRows:
    """The right rows of a book with so many keys and at most so many ranks, in their order."""

    def __init__(self, book, keys, ranks):
        self.worth = keys
        self.sums = Sums(book, ranks)
        self.counts = counts_by_rank(self.sums, keys)

    def with_ranks(self, ranks):
        """How many of them have just so many ranks."""
        if ranks == 0:
            return 1 if self.worth == 0 else 0
        return self._led_to(ranks, self.sums.top_states, self.worth)

    def total(self):
        """How many there are."""
        return sum([self.with_ranks(ranks) for ranks in range(len(self.counts))])

    def choices(self, rank, states, rest):
        """The digits at a rank from which one of these states is reached, ascending, where so many keys are left for
        this rank and those below. For each one: the digit, the states ahead, what is left then, and how many rows."""
        ahead = {}
        for after in states:
            for state, digit, more in self.sums.into(rank, after):
                ahead.setdefault((digit, rest - more), []).append(state)
        return [
            (digit, befores, left, self._led_to(rank, befores, left))
            for (digit, left), befores in [(place, ahead[place]) for place in sorted(ahead)]
        ]

    def _led_to(self, ranks, states, keys):
        """How many digits for so many ranks have so many keys and lead to one of these states."""
        return sum([self.counts[ranks].get((state, keys), 0) for state in states])

    def at_number(self, number):
        """The row with a number, which there is."""
        ranks = 0
        while number >= self.with_ranks(ranks):
            number -= self.with_ranks(ranks)
            ranks += 1
        digits = []
        states, rest = self.sums.top_states, self.worth
        for rank in range(ranks - 1, -1, -1):
            for digit, befores, left, many in self.choices(rank, states, rest):
                if number < many:
                    digits.append(digit)
                    states, rest = befores, left
                    break
                number -= many
        return tuple(digits[::-1])

    def number_at(self, row):
        """The number of a row that is one of them."""
        number = sum([self.with_ranks(ranks) for ranks in range(len(row))])
        states, rest = self.sums.top_states, self.worth
        for rank in range(len(row) - 1, -1, -1):
            for digit, befores, left, many in self.choices(rank, states, rest):
                if digit == row[rank]:
                    states, rest = befores, left
                    break
                number += many
        return number


def _all_right(book, keys):
    """All right rows with so many keys. A tree of rank r has at least 2 ** r nodes."""
    return RightRows(book, keys, keys.bit_length())


def count_right(book, keys):
    """The number of right rows with so many keys."""
    _check_keys(book, keys)
    return _all_right(book, keys).total()


def right_at(book, keys, number):
    """The right row with so many keys that has this number."""
    _check_keys(book, keys)
    if not is_count(number):
        raise InvalidNumber(number)
    rows = _all_right(book, keys)
    if number >= rows.total():
        raise InvalidNumber(number)
    return rows.at_number(number)


def number_of(book, row):
    """The number of a right row among those with as many keys."""
    check_book(book)
    if not book.is_right(row):
        raise InvalidRow("this is no right row")
    # Those with more ranks come behind it.
    return RightRows(book, keys_of(book.kinds, row), len(row)).number_at(row)


def each_right(book, keys):
    """A generator of the right rows with so many keys, in their order."""
    _check_keys(book, keys)
    rows = _all_right(book, keys)
    for number in range(rows.total()):
        yield rows.at_number(number)


def _least_right(book, keys, ranks):
    """The least number of keys, at least this one, of a right row with one rank at least and so many at most."""
    sums = Sums(book, ranks)
    found = least_by_rank(sums, keys)
    least = [least_above(sums, found, many, (state, keys)) for many in range(1, ranks + 1) for state in sums.top_states]
    return min([one for one in least if one is not None], default=None)


def next_keys(book, keys):
    """The least number of keys of a right row that is greater than this one, None if there is none."""
    _check_keys(book, keys)
    ranks = keys.bit_length()
    least = None
    # A row with more ranks than these has at least 2 ** ranks keys.
    while ranks < MAX_RANKS and (least is None or least.bit_length() > ranks):
        ranks = min(ranks + ranks // 2 + 1, MAX_RANKS)
        least = _least_right(book, keys + 1, ranks)
    return least


def least_keys(book, ranks):
    """The least number of keys of a right row with just so many ranks, None if there is none."""
    _check_ranks(book, ranks)
    if ranks == 0:
        return 0
    sums = Sums(book, ranks)
    return min([sums.lows[ranks][state] for state in sums.top_states if state in sums.lows[ranks]], default=None)


def most_keys(book, ranks):
    """The greatest number of keys of a right row with just so many ranks, None if there is none."""
    _check_ranks(book, ranks)
    if ranks == 0:
        return 0
    sums = Sums(book, ranks)
    return max([sums.highs[ranks][state] for state in sums.top_states if state in sums.highs[ranks]], default=None)


def most_trees(book, keys):
    """The greatest number of trees of a right row with so many keys, None if there is none."""
    _check_keys(book, keys)
    if keys == 0:
        return 0
    sums = Sums(book, keys.bit_length())
    found = trees_by_rank(sums, keys)
    trees = [here[state, keys] for here in found for state in sums.top_states if (state, keys) in here]
    return max(trees, default=None)
