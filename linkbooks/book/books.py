"""Books: kinds, a reader and a machine, with a note to begin each kind of deeds."""

from linkbooks.base.kinds import Kinds, is_renaming, kinds_line
from linkbooks.base.lines import told_by, words_of
from linkbooks.base.ranks import Ranks
from linkbooks.base.rows import is_row
from linkbooks.base.words import is_name
from linkbooks.book.pages import Machine, Page, page_line
from linkbooks.errors import (
    InvalidBook, InvalidKinds, InvalidOperation, InvalidPage, InvalidReader, ParseError, UnknownName,
)
from linkbooks.read.readers import Reader, reader_line

DEEDS = ("put", "meld", "take")

# The lines that can be exchanged in a book, by their first words, and those of them that can be left out.
_EXCHANGED = ("read", "page", "ends", "start")
_LEFT_OUT = ("read", "page")


def _are_starts(value):
    """Whether the value is a dict from just the kinds of deeds to notes."""
    if not isinstance(value, dict) or len(value) != len(DEEDS):
        return False
    return all([deed in value and is_name(value[deed]) for deed in DEEDS])


def _start_line(line):
    """The pair of the place and of what a line of a start tells there, or None if the value is no such line."""
    words = words_of(line)
    if len(words) != 3 or words[0] != "start" or words[1] not in DEEDS or not is_name(words[2]):
        return None
    return (("start", words[1]), words[2])


def _book_line(line):
    """The pair of the place of a line and of the line, or None if the value is no line of a book."""
    for told in (kinds_line(line), reader_line(line), _start_line(line), page_line(line)):
        if told is not None:
            return (told[0], line)
    return None


def _lines_at(told, words):
    """The lines at the places with these first words."""
    return [told[place] for place in told if place[0] in words]


def _starts_in(lines):
    """The starts that lines tell; there is no book if they are not one for each deed."""
    told = [_start_line(line) for line in lines]
    starts = {place[1]: note for place, note in told}
    if not _are_starts(starts):
        raise InvalidBook("there is no start for each deed")
    return starts


class Book:
    """A book: which kinds there are, which rows are right, and how they are added."""

    def __init__(self, kinds, reader, machine, starts):
        if not isinstance(kinds, Kinds):
            raise InvalidKinds("these are no kinds")
        if not isinstance(reader, Reader):
            raise InvalidReader("this is no reader")
        if not isinstance(machine, Machine):
            raise InvalidPage("this is no machine")
        if not _are_starts(starts):
            raise InvalidOperation("this is no dict from just the kinds of deeds to notes")
        if machine.kinds != kinds or not all([name in kinds for digit in reader.digits for name in digit]):
            raise InvalidBook("the machine or the reader has other kinds")
        self._kinds = kinds
        self._reader = reader
        self._machine = machine
        self._starts = {deed: starts[deed] for deed in DEEDS}
        self._ranks = Ranks(kinds)
        begins = [f"start {deed} {starts[deed]}" for deed in DEEDS]
        self._lines = (*kinds.lines, *reader.lines, *begins, *[page.line for page in machine.pages])

    @classmethod
    def from_lines(cls, *lines):
        """The book with these lines, in any order."""
        told = told_by(lines, _book_line)
        of_kinds = _lines_at(told, ("leaf", "kind"))
        of_reader = _lines_at(told, ("first", "ends", "read"))
        kinds = Kinds.from_lines(*of_kinds)
        reader = Reader.from_lines(*of_reader)
        machine = Machine(kinds, tuple([Page.from_line(line) for line in _lines_at(told, ("page",))]))
        return cls(kinds, reader, machine, _starts_in(_lines_at(told, ("start",))))

    @property
    def kinds(self):
        """The kinds."""
        return self._kinds

    @property
    def reader(self):
        """The reader."""
        return self._reader

    @property
    def machine(self):
        """The machine."""
        return self._machine

    @property
    def starts(self):
        """The dict from the kinds of deeds to the notes with which they begin."""
        return dict(self._starts)

    @property
    def ranks(self):
        """What is told of all ranks for the kinds."""
        return self._ranks

    @property
    def lines(self):
        """The lines of the kinds, of the reader, of starts and of pages."""
        return self._lines

    @property
    def size(self):
        """The number of pages and reads."""
        return len(self._machine) + len(self._reader.reads)

    def is_right(self, value):
        """Whether the value is a right row."""
        return is_row(self._kinds, value) and self._reader.takes(value)

    def with_line(self, line):
        """The book with one more line, or with another one at its place."""
        told = _book_line(line)
        if told is None or told[0][0] not in _EXCHANGED:
            raise ParseError(None)
        others = [other for other in self._lines if _book_line(other)[0] != told[0]]
        return Book.from_lines(*others, line)

    def without(self, line):
        """The book without the line of a read or of a page."""
        if line not in self._lines or words_of(line)[0] not in _LEFT_OUT:
            raise UnknownName(line)
        others = [other for other in self._lines if other != line]
        return Book.from_lines(*others)

    def __contains__(self, value):
        return value in self._lines

    def __iter__(self):
        return iter(self._lines)

    def __len__(self):
        return len(self._lines)

    def __eq__(self, other):
        return isinstance(other, Book) and self._lines == other._lines

    def __str__(self):
        return f"book of {len(self._kinds)} kinds, {len(self._reader)} states, {len(self._machine)} pages"


def check_book(book):
    """Refuse what is no book."""
    if not isinstance(book, Book):
        raise InvalidBook("this is no book")


def notes_of(book):
    """The ascending tuple of the notes of pages and of starts."""
    starts = book.starts
    return tuple(sorted(set([*book.machine.notes, *[starts[deed] for deed in DEEDS]])))


def _renaming(names, known):
    """The dict from known names to those that they get, which are the same if None is passed."""
    if names is None:
        return {name: name for name in known}
    if not is_renaming(names, known):
        raise InvalidOperation("this is no dict from just these names to different names")
    return names


def _renamed(names, digit):
    """A sorted tuple of kinds with other names."""
    return tuple(sorted([names[name] for name in digit]))


def _renamed_reader(reader, kinds, states):
    """The reader with other kinds and states."""
    reads = {(states[state], _renamed(kinds, digit)): states[after] for (state, digit), after in reader.reads.items()}
    return Reader(states[reader.first], _renamed(states, reader.ends), reads)


def _renamed_page(page, kinds, notes):
    """The page with other kinds and notes."""
    return Page(notes[page.note], _renamed(kinds, page.pool), _renamed(kinds, page.made), notes[page.after])


def renamed_book(book, *, kinds=None, states=None, notes=None):
    """The book with other names of its kinds, its states, its notes; None leaves them."""
    check_book(book)
    to_kinds = _renaming(kinds, book.kinds.names)
    to_states = _renaming(states, book.reader.states)
    to_notes = _renaming(notes, notes_of(book))
    new_kinds = book.kinds.renamed(to_kinds)
    pages = [_renamed_page(page, to_kinds, to_notes) for page in book.machine.pages]
    starts = book.starts
    return Book(
        new_kinds, _renamed_reader(book.reader, to_kinds, to_states), Machine(new_kinds, tuple(pages)),
        {deed: to_notes[starts[deed]] for deed in DEEDS},
    )
