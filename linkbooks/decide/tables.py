"""Stands between two ranks, and tables of them: they tell whether all deeds of a kind are done."""

from linkbooks.base.words import is_count, is_sorted
from linkbooks.book.books import DEEDS, check_book, notes_of
from linkbooks.book.pages import MAX_MADE
from linkbooks.decide.courses import Course
from linkbooks.decide.readings import ENDED
from linkbooks.decide.spreads import Spread, leading_to
from linkbooks.errors import InvalidOperation

MAX_TABLE = 20000


def check_deeds(book, kind):
    """Refuse what is no book, then what is no kind of deeds."""
    check_book(book)
    if kind not in DEEDS:
        raise InvalidOperation("this is no kind of deeds")


def _is_state(book, value):
    """Whether the value is a state of the reader, or tells that a row has ended."""
    return value == ENDED or value in book.reader.states


def _are_rows(book, kind, value, here):
    """Whether the value tells the rows that are read for a kind of deeds, where these kinds exist."""
    if not isinstance(value, tuple) or len(value) != (1 if kind == "put" else 2):
        return False
    if kind != "take":
        return all([_is_state(book, state) for state in value])
    state, top = value
    return _is_state(book, state) and (top == ENDED or (state != ENDED and top in here))


def is_stand(book, kind, value):
    """Whether the value has the form of a stand of a kind of deeds."""
    check_deeds(book, kind)
    if not isinstance(value, tuple) or len(value) != 6:
        return False
    rank, rows, carried, note, state, ends = value
    if not is_count(rank) or rank >= len(book.ranks):
        return False
    here = book.ranks.kinds_at(rank)
    if not is_sorted(carried, most=MAX_MADE) or not all([name in here for name in carried]):
        return False
    if not _are_rows(book, kind, rows, here) or not _is_state(book, state):
        return False
    return note in notes_of(book) and isinstance(ends, bool)


def start_of(book, kind):
    """The stand in which the deeds of a kind begin."""
    check_deeds(book, kind)
    return Course(book, kind).start()


def moves(book, kind, stand):
    """The ascending tuple of the moves from a stand."""
    if not is_stand(book, kind, stand):
        raise InvalidOperation("this is no stand")
    return tuple(sorted([road[:2] for road in Course(book, kind).moves_from(stand)]))


def is_final(book, kind, value):
    """Whether the value is a final stand."""
    return is_stand(book, kind, value) and Course(book, kind).is_end(value)


class Table:
    """The table of a kind of deeds: the start, and all live stands behind it."""

    def __init__(self, book, kind):
        check_deeds(book, kind)
        course = Course(book, kind)
        spread = Spread(course, MAX_TABLE)
        ends = [at for at, stand in enumerate(spread.spots) if course.is_end(stand)]
        live = leading_to(spread.onward, ends)
        self._book = book
        self._kind = kind
        self._stands = tuple(sorted([stand for at, stand in enumerate(spread.spots) if at in live or at == 0]))
        self._places = {stand: True for stand in self._stands}
        self._finals = tuple(sorted([spread.spots[at] for at in ends]))
        self._wrong = tuple([stand for stand in self._finals if not stand[5]])
        self._arrivals = {
            stand: (reads, spread.spots[at])
            for stand, (at, reads) in zip(spread.spots[1:], spread.arrivals[1:]) if spread.numbers[stand] in live
        }

    @property
    def book(self):
        """The book."""
        return self._book

    @property
    def kind(self):
        """The kind of deeds."""
        return self._kind

    @property
    def stands(self):
        """The ascending tuple of all stands."""
        return self._stands

    @property
    def finals(self):
        """The ascending tuple of the final stands."""
        return self._finals

    @property
    def wrong(self):
        """The ascending tuple of the final stands at which the new row is not right."""
        return self._wrong

    @property
    def is_good(self):
        """Whether the new row is right at all final stands."""
        return not self._wrong

    def way_to(self, stand):
        """A tuple of moves, as short as possible, that leads from the start to a stand."""
        if stand not in self:
            raise InvalidOperation("this stand is not in the table")
        way = []
        while stand in self._arrivals:
            reads, before = self._arrivals[stand]
            way.append((reads, stand))
            stand = before
        return tuple(way[::-1])

    def __contains__(self, value):
        return is_stand(self._book, self._kind, value) and value in self._places

    def __iter__(self):
        return iter(self._stands)

    def __len__(self):
        return len(self._stands)

    def __eq__(self, other):
        return isinstance(other, Table) and self._book == other._book and self._kind == other._kind

    def __str__(self):
        return f"table of {len(self._stands)} stands, {len(self._wrong)} wrong"
