"""Papers: they show that a book is good for a kind of deeds, or that it is not."""

from linkbooks.base.lines import text_of
from linkbooks.base.rows import MAX_RANKS
from linkbooks.decide.courses import Course
from linkbooks.decide.nets import Net, least_way, no_gain
from linkbooks.decide.readings import ENDED, HERE, text_row
from linkbooks.decide.tables import Table, check_deeds, is_stand
from linkbooks.deeds.rows import is_deed, is_done, steps
from linkbooks.errors import InvalidOperation

# The machine goes at most so many ranks beyond the rows: what is carried there are two trees at most, and of two trees
# only one can be made.
BEYOND = 2


def table_net(table, goals, gain):
    """The net of the stands of a table, with these goals, and with what is gained on a move."""
    course = Course(table.book, table.kind)
    start = course.start()
    spots = [start, *[stand for stand in table.stands if stand != start]]
    return Net(course, spots, goals, table.book.kinds, beyond=BEYOND, gain=gain)


def told_deed(leaf, kind, reads):
    """The pair of the row and of the deed of a kind that are read like this."""
    row = text_row([read[0] for read in reads])
    if kind == "put":
        return (row, ("put",))
    others = [read[1] for read in reads]
    if kind == "meld":
        return (row, ("meld", text_row(others)))
    way = (leaf, *[top for top in others if top not in (ENDED, HERE)])
    return (row, ("take", len(way) - 1, way))


def _least_wrong(table):
    """The pair of a right row and a deed that fails in it, with as few keys as possible; None if there is none."""
    if table.is_good:
        return None
    way = least_way(table_net(table, table.wrong, no_gain), 0)
    return told_deed(table.book.kinds.leaf, table.kind, way[1])


def paper(book, kind):
    """A paper for a book and a kind of deeds."""
    table = Table(book, kind)
    if table.is_good:
        return ("good", table.stands)
    row, deed = _least_wrong(table)
    return ("bad", row, deed)


def _are_ascending(book, kind, value):
    """Whether the value is an ascending tuple of stands."""
    if not isinstance(value, tuple) or not all([is_stand(book, kind, stand) for stand in value]):
        return False
    return all([below < above for below, above in zip(value, value[1:])])


def _leads_to_end(course, stands):
    """Whether one of these stands is live."""
    known = {stand: True for stand in stands}
    waiting = list(stands)
    while waiting:
        stand = waiting.pop()
        if course.is_end(stand):
            return True
        for road in course.moves_from(stand):
            if road[1] not in known:
                known[road[1]] = True
                waiting.append(road[1])
    return False


def _shows_good(book, kind, value):
    """Whether the value is a tuple of stands that shows that a book is good."""
    if not _are_ascending(book, kind, value):
        return False
    course = Course(book, kind)
    inside = {stand: True for stand in value}
    if course.start() not in inside or any([course.is_end(stand) and not stand[5] for stand in value]):
        return False
    follow = {road[1]: True for stand in value for road in course.moves_from(stand)}
    return not _leads_to_end(course, [stand for stand in follow if stand not in inside])


def _shows_bad(book, kind, row, deed):
    """Whether the values are a right row and a deed of the kind that fails in it."""
    if not book.is_right(row) or not is_deed(book, row, deed):
        return False
    return deed[0] == kind and not is_done(book, row, deed)


def is_paper(book, kind, value):
    """Whether the value is a paper for a book and a kind of deeds."""
    check_deeds(book, kind)
    if not isinstance(value, tuple) or len(value) not in (2, 3):
        return False
    if len(value) == 2:
        return value[0] == "good" and _shows_good(book, kind, value[1])
    return value[0] == "bad" and _shows_bad(book, kind, value[1], value[2])


def is_good(book, kind):
    """Whether the book is good for a kind of deeds."""
    return Table(book, kind).is_good


def least_bad(book, kind):
    """A right row and a deed that fails in it, with as few keys as possible; None if there is none."""
    return _least_wrong(Table(book, kind))


def realize(book, kind, reads):
    """The pair of the right row and of the deed that are read like this from the start on to a final stand."""
    check_deeds(book, kind)
    if not isinstance(reads, tuple) or len(reads) > MAX_RANKS:
        raise InvalidOperation("this is no tuple of at most 400 reads")
    course = Course(book, kind)
    stand = course.start()
    for read in reads:
        stand = course.behind(stand, read)
        if stand is None:
            raise InvalidOperation("no moves are read like this")
    if not course.is_end(stand):
        raise InvalidOperation("these moves lead to no final stand")
    return told_deed(book.kinds.leaf, kind, reads)


def _texts(row, many):
    """The texts of the digits of a row for so many ranks."""
    return [text_of(row[rank]) if rank < len(row) else ENDED for rank in range(many)]


def reads_of(book, row, deed):
    """The reads of the moves of a deed in a right row."""
    many = len(steps(book, row, deed))
    texts = _texts(row, many)
    if deed[0] == "put":
        return tuple([(text,) for text in texts])
    if deed[0] == "meld":
        return tuple(zip(texts, _texts(deed[1], many)))
    tops = [*deed[2][1:], HERE, *[ENDED for _ in range(deed[1] + 1, many)]]
    return tuple(zip(texts, tops))
