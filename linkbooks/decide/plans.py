"""Plans: puts and melds of rows one behind the other, and whether two of them always come to the same."""

from linkbooks.base.words import is_integer
from linkbooks.book.books import check_book
from linkbooks.decide.braids import LETTERS, Braid, deeds_in
from linkbooks.decide.nets import least_reads
from linkbooks.decide.readings import text_row
from linkbooks.decide.spreads import MAX_SPOTS, Spread
from linkbooks.deeds.rows import run_deed
from linkbooks.errors import InvalidOperation, InvalidPlan, Spoilt
from linkbooks.heaps.heaps import Heap

MAX_PLAN = 4


def _are_for(letters, value):
    """Whether the value is a dict with just these letters as its keys."""
    return isinstance(value, dict) and len(value) == len(letters) and all([letter in value for letter in letters])


def _are_right(book, letters, value):
    """Whether the value is a dict from just these letters to right rows."""
    return _are_for(letters, value) and all([book.is_right(value[letter]) for letter in letters])


def _is_heap(book, value):
    """Whether the value is a heap with an equal book."""
    return isinstance(value, Heap) and value.book == book


class Plan:
    """A plan: puts and melds of rows."""

    def __init__(self, text):
        told = deeds_in(text) if isinstance(text, str) else None
        if told is None or len(told[0]) > MAX_PLAN:
            raise InvalidPlan("this is no text of a plan")
        self._text = text
        self._made, self._result = told
        self._letters = tuple([letter for letter in LETTERS if letter in text])

    @property
    def text(self):
        """The text."""
        return self._text

    @property
    def letters(self):
        """The ascending tuple of the letters in the text."""
        return self._letters

    @property
    def deeds(self):
        """The number of deeds."""
        return len(self._made)

    def run(self, book, rows):
        """The row to which the plan comes."""
        check_book(book)
        if not _are_right(book, self._letters, rows):
            raise InvalidOperation("this is no dict from just the letters to right rows")
        found = {letter: rows[letter] for letter in self._letters}
        for number, deed in enumerate(self._made):
            told = ("put",) if deed[0] == "put" else ("meld", found[deed[2]])
            row, _ = run_deed(book, found[deed[1]], told)
            if not book.is_right(row):
                raise Spoilt(row)
            found[number] = row
        return found[self._result]

    def run_heaps(self, book, heaps, *keys):
        """The heap to which the plan comes, with these keys for its puts."""
        check_book(book)
        if not _are_for(self._letters, heaps) or not all([_is_heap(book, heaps[letter]) for letter in self._letters]):
            raise InvalidOperation("this is no dict from just the letters to heaps of the book")
        puts = len([deed for deed in self._made if deed[0] == "put"])
        if len(keys) != puts or not all([is_integer(key) for key in keys]):
            raise InvalidOperation("these are not as many integers as puts")
        found = {letter: heaps[letter] for letter in self._letters}
        used = 0
        for number, deed in enumerate(self._made):
            if deed[0] == "put":
                found[number] = found[deed[1]].put(keys[used])
                used += 1
            else:
                found[number] = found[deed[1]].meld(found[deed[2]])
        return found[self._result]

    def renamed(self, letters):
        """The plan with other letters, by a dict from just its letters to any of the three."""
        if not _are_for(self._letters, letters) or not all([letters[old] in LETTERS for old in self._letters]):
            raise InvalidOperation("this is no dict from just the letters to letters")
        return Plan("".join([letters.get(sign, sign) for sign in self._text]))

    def __len__(self):
        return len(self._made)

    def __eq__(self, other):
        return isinstance(other, Plan) and self._text == other._text

    def __str__(self):
        return str(self._text)


def _check_plans(book, one, other):
    """Refuse what is no book, then what is no plan."""
    check_book(book)
    if not isinstance(one, Plan) or not isinstance(other, Plan):
        raise InvalidPlan("this is no plan")


def _letters_of(one, other):
    """The ascending tuple of the letters in two plans."""
    return tuple([letter for letter in LETTERS if letter in one.letters or letter in other.letters])


def parting_rows(book, one, other):
    """A dict from the letters in two plans to right rows at which they part, with as few keys in all as possible; None
    if there is none."""
    _check_plans(book, one, other)
    letters = _letters_of(one, other)
    course = Braid(book, (one.text, other.text), letters)
    spread = Spread(course, MAX_SPOTS)
    goals = [at for at, spot in enumerate(spread.spots) if course.is_parting(spot)]
    reads = least_reads(course, spread, goals, book.kinds, 2 * max(one.deeds, other.deeds))
    if reads is None:
        return None
    return {letter: text_row([read[at] for read in reads]) for at, letter in enumerate(letters)}


def are_alike(book, one, other):
    """Whether two plans either both fail or come to the same row, with any right rows."""
    return parting_rows(book, one, other) is None


def _outcome(book, plan, rows):
    """The row to which a plan comes with these rows, None if it fails."""
    try:
        return plan.run(book, {letter: rows[letter] for letter in plan.letters})
    except Spoilt:
        return None


def is_parting(book, one, other, value):
    """Whether the value is a dict from the letters in two plans to right rows at which they part."""
    _check_plans(book, one, other)
    if not _are_right(book, _letters_of(one, other), value):
        return False
    return _outcome(book, one, value) != _outcome(book, other, value)
