"""Pages, and the machine that goes by them."""

from linkbooks.base.kinds import Kinds
from linkbooks.base.lines import names_in, text_of, words_of
from linkbooks.base.rows import LOOSE_DIGIT, are_loose_digits, digit_at, merged, trimmed
from linkbooks.base.words import is_name, is_sorted
from linkbooks.errors import InvalidKinds, InvalidOperation, InvalidPage, ParseError, TooMany, UnknownName

MAX_POOL = 8
MAX_MADE = 2

_MAX_PAGES = 80
_SIGNS = ("page", "to", "then")


def _is_place(value):
    """Whether the value is a pair of a note and a pool."""
    return isinstance(value, tuple) and len(value) == 2 and is_name(value[0]) and is_sorted(value[1], most=MAX_POOL)


def page_line(line):
    """The pair of the place and of what a line of a page tells there, or None if the value is no such line."""
    words = words_of(line)
    if len(words) != 7 or (words[0], words[3], words[5]) != _SIGNS:
        return None
    pool = names_in(words[2], most=MAX_POOL)
    made = names_in(words[4], most=MAX_MADE)
    if pool is None or made is None or not is_name(words[1]) or not is_name(words[6]):
        return None
    return (("page", words[1], pool), (made, words[6]))


def _left(pool, makings):
    """The pool without the parts of these makings, or None if they cannot be taken out. What has no making cannot be
    made either."""
    rest = list(pool)
    for making in makings:
        if not making:
            return None
        for part in making:
            if part not in rest:
                return None
            rest.remove(part)
    return tuple(rest)


class Page:
    """A page: what is made out of a pool, and the next note."""

    def __init__(self, note, pool, made, after):
        if not _is_place((note, pool)) or not is_sorted(made, most=MAX_MADE) or not is_name(after):
            raise InvalidPage("there is no such page")
        self._note = note
        self._pool = pool
        self._made = made
        self._after = after

    @classmethod
    def from_line(cls, line):
        """The page with this line."""
        told = page_line(line)
        if told is None:
            raise ParseError(None)
        return cls(told[0][1], told[0][2], told[1][0], told[1][1])

    @property
    def note(self):
        """The note with which the page is done."""
        return self._note

    @property
    def pool(self):
        """The pool with which the page is done."""
        return self._pool

    @property
    def made(self):
        """The kinds that are made."""
        return self._made

    @property
    def after(self):
        """The next note."""
        return self._after

    @property
    def line(self):
        """The line of the page."""
        return f"page {self._note} {text_of(self._pool)} to {text_of(self._made)} then {self._after}"

    @property
    def place(self):
        """The pair (note, pool)."""
        return (self._note, self._pool)

    def left(self, kinds):
        """The new digit."""
        if not isinstance(kinds, Kinds):
            raise InvalidKinds("these are no kinds")
        if not all([name in kinds for name in (*self._pool, *self._made)]):
            raise InvalidOperation("a kind of the page is no kind")
        rest = _left(self._pool, [kinds[name] for name in self._made])
        if rest is None:
            raise InvalidOperation("the parts cannot be taken out of the pool")
        return rest

    def __len__(self):
        return len(self._made)

    def __eq__(self, other):
        if not isinstance(other, Page):
            return False
        return self.place == other.place and self._made == other._made and self._after == other._after

    def __str__(self):
        return str(self.line)


def _are_pages(value):
    """Whether the value is a tuple of at most 80 pages, no two of one place."""
    if not isinstance(value, tuple) or len(value) > _MAX_PAGES:
        return False
    if not all([isinstance(page, Page) for page in value]):
        return False
    return len({page.place for page in value}) == len(value)


def _left_by_place(kinds, pages):
    """The dict from the places of pages to their new digits."""
    left = {}
    for page in pages:
        try:
            left[page.place] = page.left(kinds)
        except InvalidOperation:
            raise InvalidPage(f"the page cannot be done: {page.line}") from None
    return left


class Machine:
    """A machine: it adds rows by its pages."""

    def __init__(self, kinds, pages):
        if not isinstance(kinds, Kinds):
            raise InvalidKinds("these are no kinds")
        if not _are_pages(pages):
            raise InvalidPage("this is no tuple of at most 80 pages of different places")
        self._kinds = kinds
        self._left = _left_by_place(kinds, pages)
        self._pages = {page.place: page for page in sorted(pages, key=lambda each: each.place)}

    @property
    def kinds(self):
        """The kinds over which it is a machine."""
        return self._kinds

    @property
    def pages(self):
        """The pages, ascending by place."""
        return tuple([self._pages[place] for place in self._pages])

    @property
    def notes(self):
        """The ascending tuple of the notes in the pages."""
        befores = [page.note for page in self.pages]
        return tuple(sorted(set([*befores, *[page.after for page in self.pages]])))

    def _is_pool(self, value):
        """Whether the value is a sorted tuple of at most 20 kinds."""
        return is_sorted(value, most=LOOSE_DIGIT) and all([name in self._kinds for name in value])

    def _at_rank(self, note, pool):
        """The triple of the new digit, what is made, and the next note."""
        page = self._pages.get((note, pool))
        if page is None:
            return (pool, (), note)
        return (self._left[note, pool], page.made, page.after)

    def step(self, note, pool):
        """What happens at a rank: the triple of the new digit, what is made, and the next note."""
        if not is_name(note):
            raise InvalidOperation("this is no note")
        if not self._is_pool(pool):
            raise InvalidOperation("this is no sorted tuple of at most 20 kinds")
        return self._at_rank(note, pool)

    def run(self, note, digits, *, carried=()):
        """The pair of the new row and of the steps (pool, made, note), from rank 0 on."""
        if not is_name(note):
            raise InvalidOperation("this is no note")
        if not are_loose_digits(digits) or not all([self._is_pool(digit) for digit in digits]):
            raise InvalidOperation("these are no pools")
        if not self._is_pool(carried):
            raise InvalidOperation("this is no sorted tuple of at most 20 kinds")
        new_digits = []
        gone = []
        while len(gone) < len(digits) or carried:
            pool = merged(digit_at(digits, len(gone)), carried)
            if len(pool) > LOOSE_DIGIT:
                raise TooMany(LOOSE_DIGIT)
            digit, carried, note = self._at_rank(note, pool)
            new_digits.append(digit)
            gone.append((pool, carried, note))
        return (trimmed(tuple(new_digits)), tuple(gone))

    def __contains__(self, value):
        if isinstance(value, Page):
            return self._pages.get(value.place) == value
        return _is_place(value) and value in self._pages

    def __getitem__(self, place):
        if not _is_place(place) or place not in self._pages:
            raise UnknownName(place)
        return self._pages[place]

    def __iter__(self):
        # Without this, Python would iterate by asking for machine[0], machine[1] and so on.
        raise TypeError("machines cannot be iterated over")

    def __len__(self):
        return len(self._pages)

    def __eq__(self, other):
        return isinstance(other, Machine) and self._kinds == other._kinds and self._pages == other._pages

    def __str__(self):
        return f"machine with {len(self._pages)} pages"
