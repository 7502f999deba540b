"""A bench: a book that is worked on, with pledges that hold all the time, and with changes that can be taken back."""

from linkbooks.base.rows import is_loose
from linkbooks.base.words import is_count
from linkbooks.book.books import DEEDS, check_book
from linkbooks.decide.links import links_bound
from linkbooks.decide.plans import Plan, are_alike
from linkbooks.decide.tables import Table
from linkbooks.deeds.rows import is_deed, is_done
from linkbooks.errors import InvalidNumber, InvalidOperation, InvalidPlan, NothingToUndo, Refused, TooMany
from linkbooks.text.texts import has_deed_form

MAX_PLEDGES = 10


def _is_plan_text(value):
    """Whether the value is the text of a plan."""
    try:
        Plan(value)
    except InvalidPlan:
        return False
    return True


def _is_pledge(value):
    """Whether the value is a pledge."""
    if not isinstance(value, tuple) or not 2 <= len(value) <= 3:
        return False
    if len(value) == 2:
        return value[0] == "good" and value[1] in DEEDS
    if value[0] == "links":
        return value[1] in DEEDS and is_count(value[2])
    if value[0] == "alike":
        return _is_plan_text(value[1]) and _is_plan_text(value[2])
    return value[0] == "done" and is_loose(value[1]) and has_deed_form(value[2])


def _holds(book, goods, pledge):
    """Whether a pledge holds for a book, which is good for these kinds of deeds."""
    if pledge[0] == "good":
        return goods[pledge[1]]
    if pledge[0] == "links":
        most = links_bound(book, pledge[1])
        return most is not None and most <= pledge[2]
    if pledge[0] == "alike":
        return are_alike(book, Plan(pledge[1]), Plan(pledge[2]))
    _, row, deed = pledge
    return book.is_right(row) and is_deed(book, row, deed) and is_done(book, row, deed)


def _goods_of(book):
    """The dict from the kinds of deeds to whether a book is good for them."""
    return {kind: Table(book, kind).is_good for kind in DEEDS}


class Layout:
    """What lies on a bench: a book, the pledges, and for which kinds of deeds the book is good. It never changes."""

    def __init__(self, book, pledges, goods):
        self.shown = book
        self.vows = pledges
        self.goods = goods
        self.rows = book.lines


def _is_among(pledges, value):
    """Whether the value is one of these pledges. True is not 1, so equal values are not enough."""
    return any([value == pledge and repr(value) == repr(pledge) for pledge in pledges])


def _news(before, after):
    """The pairs of the kinds of deeds for which the book is good now and was not, or the other way round, and of
    whether it is good for them now."""
    return tuple([(kind, after.goods[kind]) for kind in DEEDS if after.goods[kind] != before.goods[kind]])


class Kept:
    """What a bench was like where a block began, and what was kept for the block around it."""

    def __init__(self, now, past, ahead, outer):
        self.now = now
        self.past = past
        self.ahead = ahead
        self.outer = outer


class Trial:
    """A block behind which a bench is as before."""

    def __init__(self, bench):
        self._bench = bench
        self._kept = None

    def __enter__(self):
        self._kept = self._bench.kept(self._kept)
        return self._bench

    def __exit__(self, kind, value, trace):
        self._bench._now = self._kept.now
        self._bench._past = self._kept.past
        self._bench._ahead = self._kept.ahead
        self._kept = self._kept.outer


class Bench:
    """A book that is worked on. What it was like before each change, and before each one that was taken back, is in
    `_past` and in `_ahead`, the oldest first."""

    def __init__(self, book):
        check_book(book)
        self._now = Layout(book, (), _goods_of(book))
        self._past = ()
        self._ahead = ()

    def _changed(self, layout):
        """The news of a change."""
        news = _news(self._now, layout)
        self._past = (*self._past, self._now)
        self._ahead = ()
        self._now = layout
        return news

    def _changed_book(self, book):
        """The news of a change to another book, if all pledges hold for it."""
        if book == self._now.shown:
            return self._changed(self._now)
        goods = _goods_of(book)
        for pledge in self._now.vows:
            if not _holds(book, goods, pledge):
                raise Refused(pledge)
        return self._changed(Layout(book, self._now.vows, goods))

    def draw(self, line):
        """Work on the book with one more line, or with another one at its place."""
        return self._changed_book(self._now.shown.with_line(line))

    def erase(self, line):
        """Work on the book without a line."""
        return self._changed_book(self._now.shown.without(line))

    def demand(self, pledge):
        """Have one more pledge."""
        if not _is_pledge(pledge) or _is_among(self._now.vows, pledge):
            raise InvalidOperation("this is no pledge, or there already")
        if len(self._now.vows) >= MAX_PLEDGES:
            raise TooMany(MAX_PLEDGES)
        if not _holds(self._now.shown, self._now.goods, pledge):
            raise Refused(pledge)
        return self._changed(Layout(self._now.shown, (*self._now.vows, pledge), self._now.goods))

    def waive(self, pledge):
        """Do without a pledge."""
        if not _is_among(self._now.vows, pledge):
            raise InvalidOperation("there is no such pledge")
        rest = tuple([other for other in self._now.vows if other != pledge])
        return self._changed(Layout(self._now.shown, rest, self._now.goods))

    def _moved(self, at):
        """The news of going to this place in what the bench was like."""
        before = self._now
        layouts = (*self._past, self._now, *self._ahead)
        self._past, self._now, self._ahead = layouts[:at], layouts[at], layouts[at + 1:]
        return _news(before, self._now)

    def undo(self, *, many=1):
        """Take back so many changes."""
        if not is_count(many):
            raise InvalidNumber(many)
        if many > len(self._past):
            raise NothingToUndo(many)
        return self._moved(len(self._past) - many)

    def redo(self, *, many=1):
        """Do so many changes again that were taken back."""
        if not is_count(many):
            raise InvalidNumber(many)
        if many > len(self._ahead):
            raise NothingToUndo(many)
        return self._moved(len(self._past) + many)

    def kept(self, outer):
        """What the bench is like, to be kept in a block with what is kept for the block around it."""
        return Kept(self._now, self._past, self._ahead, outer)

    def trial(self):
        """A block, for `with`, behind which the bench is as before."""
        return Trial(self)

    def during(self, call):
        """What a call with the bench returns in such a block."""
        with self.trial() as same:
            return call(same)

    def twin(self):
        """An independent copy."""
        other = Bench(self._now.shown)
        other._now = self._now
        other._past = self._past
        other._ahead = self._ahead
        return other

    @property
    def book(self):
        """The book."""
        return self._now.shown

    @property
    def pledges(self):
        """The pledges, in the order of demands."""
        return self._now.vows

    def __contains__(self, value):
        return value in self._now.rows or _is_among(self._now.vows, value)

    def __iter__(self):
        return iter(self._now.rows)

    def __len__(self):
        return len(self._now.rows)

    def __eq__(self, other):
        if not isinstance(other, Bench):
            return False
        return self._now.shown == other._now.shown and self._now.vows == other._now.vows

    def __str__(self):
        return f"bench with {len(self._now.rows)} lines, {len(self._now.vows)} pledges"
