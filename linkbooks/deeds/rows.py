"""Deeds on rows: puts, melds and takes, and what they come to."""

from linkbooks.base.rows import digit_at, merged
from linkbooks.base.words import is_count
from linkbooks.book.books import check_book
from linkbooks.errors import InvalidOperation, InvalidRow


def _check_row(book, row):
    """Refuse what is no book, then what is no right row."""
    check_book(book)
    if not book.is_right(row):
        raise InvalidRow("this is no right row")


def _is_take(book, row, rank, way):
    """Whether a way leads to a tree at a rank of a right row."""
    if not is_count(rank) or rank >= len(row) or not book.ranks.is_way(way):
        return False
    return len(way) == rank + 1 and way[-1] in row[rank]


def _is_deed_in(book, row, value):
    """Whether the value is a deed in a row that is right."""
    if not isinstance(value, tuple) or not 1 <= len(value) <= 3:
        return False
    if len(value) == 1:
        return value[0] == "put"
    if len(value) == 2:
        return value[0] == "meld" and book.is_right(value[1])
    return value[0] == "take" and _is_take(book, row, value[1], value[2])


def _without(row, rank, name):
    """The row without a tree of this kind and rank, as many digits as before."""
    at = row[rank].index(name)
    return (*row[:rank], row[rank][:at] + row[rank][at + 1:], *row[rank + 1:])


def _rows_added(book, row, deed):
    """The two rows that are added for a deed, and what is carried to rank 0."""
    if deed[0] == "put":
        return (row, (), (book.kinds.leaf,))
    if deed[0] == "meld":
        return (row, deed[1], ())
    return (_without(row, deed[1], deed[2][-1]), book.ranks.children_of(deed[2]), ())


def run_deed(book, row, deed):
    """The pair of the new row and of the steps, of a deed in a right row."""
    one, other, carried = _rows_added(book, row, deed)
    ranks = max(len(one), len(other))
    digits = tuple([merged(digit_at(one, rank), digit_at(other, rank)) for rank in range(ranks)])
    return book.machine.run(book.starts[deed[0]], digits, carried=carried)


def _checked_run(book, row, deed):
    """The pair of the new row and of the steps, if these are a book, a right row and a deed in it."""
    _check_row(book, row)
    if not _is_deed_in(book, row, deed):
        raise InvalidOperation("this is no deed in the row")
    return run_deed(book, row, deed)


def is_deed(book, row, value):
    """Whether the value is a deed in a right row."""
    _check_row(book, row)
    return _is_deed_in(book, row, value)


def new_row(book, row, deed):
    """The new row, right or not."""
    return _checked_run(book, row, deed)[0]


def is_done(book, row, deed):
    """Whether the new row is right."""
    behind = new_row(book, row, deed)
    return book.is_right(behind)


def steps(book, row, deed):
    """The steps of the machine from rank 0 on: triples (pool, made, note)."""
    return _checked_run(book, row, deed)[1]


def links(book, row, deed):
    """How many trees are made."""
    return sum([len(made) for _, made, _ in steps(book, row, deed)])


def reach(book, row, deed):
    """The number of ranks up to the highest one at which the pool is not the digit of the row, or a tree is made."""
    gone = steps(book, row, deed)
    changed = [rank for rank in range(len(gone)) if gone[rank][1] or gone[rank][0] != digit_at(row, rank)]
    return changed[-1] + 1 if changed else 0


def each_take(book, row):
    """A generator of all takes in a right row, ascending."""
    _check_row(book, row)
    for rank, digit in enumerate(row):
        for way in book.ranks.each_way(digit, rank):
            yield ("take", rank, way)
