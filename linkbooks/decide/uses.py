"""What is of use in a book: the pages that deeds meet, those that none meets, the pools without a page; and deeds at
which two books part."""

from linkbooks.book.books import DEEDS, Book, check_book
from linkbooks.book.pages import Machine
from linkbooks.decide.courses import Course
from linkbooks.decide.nets import least_reads, least_way
from linkbooks.decide.pairs import Pair
from linkbooks.decide.papers import BEYOND, table_net, told_deed
from linkbooks.decide.spreads import MAX_SPOTS, Spread
from linkbooks.decide.tables import Table, check_deeds
from linkbooks.errors import InvalidOperation, UnknownName
from linkbooks.read.readers import Reader


def _moves_between(table):
    """The moves between the stands of a table: triples of the stand, the next one, and the pool."""
    course = Course(table.book, table.kind)
    inside = {stand: True for stand in table.stands}
    return [
        (stand, road[1], road[3])
        for stand in table.stands for road in course.moves_from(stand) if road[1] in inside
    ]


def _met_lines(table):
    """The ascending tuple of the lines of the pages that the deeds of a table meet."""
    places = {(stand[3], pool): True for stand, _, pool in _moves_between(table)}
    return tuple(sorted([page.line for page in table.book.machine.pages if page.place in places]))


def met(book, kind):
    """The ascending tuple of the lines of the pages that deeds of a kind meet."""
    return _met_lines(Table(book, kind))


def least_meeting(book, kind, line):
    """A right row and a deed that meets the page with a line, with as few keys as possible; None if there is none."""
    check_deeds(book, kind)
    pages = [page for page in book.machine.pages if page.line == line]
    if not pages:
        raise UnknownName(line)
    place = pages[0].place
    table = Table(book, kind)
    net = table_net(table, table.finals, lambda stand, road: 1 if (stand[3], road[3]) == place else 0)
    way = least_way(net, 1)
    return told_deed(book.kinds.leaf, kind, way[1]) if way is not None else None


def _unmet_pages(book):
    """The pages that no deeds of any kind meet."""
    lines = [line for kind in DEEDS for line in met(book, kind)]
    return [page for page in book.machine.pages if page.line not in lines]


def unmet(book):
    """The ascending tuple of the lines of the pages that no deeds of any kind meet."""
    check_book(book)
    return tuple(sorted([page.line for page in _unmet_pages(book)]))


def spared(book):
    """The book without the pages that no deeds meet, and without the reads that its reader can spare."""
    check_book(book)
    idle = [page.line for page in _unmet_pages(book)]
    pages = tuple([page for page in book.machine.pages if page.line not in idle])
    reads, spare = book.reader.reads, book.reader.spare
    reader = Reader(book.reader.first, book.reader.ends, {place: reads[place] for place in reads if place not in spare})
    return Book(book.kinds, reader, Machine(book.kinds, pages), book.starts)


def lacking(book, kind):
    """The ascending tuple of the pairs (note, pool) without a page at which a pool is left that no line reads there."""
    table = Table(book, kind)
    places = {
        (stand[3], pool): True for stand, after, pool in _moves_between(table)
        if pool and stand[4] != "" and after[4] == "" and (stand[3], pool) not in book.machine
    }
    return tuple(sorted(places))


def parting_deed(book, other, kind):
    """A row that is right in both of two books with equal kinds, and a deed of a kind at which they part, with as few
    keys as possible; None if they are alike."""
    check_book(book)
    check_book(other)
    if book.kinds != other.kinds:
        raise InvalidOperation("the books have other kinds")
    check_deeds(book, kind)
    course = Pair(book, other, kind)
    spread = Spread(course, MAX_SPOTS)
    goals = [at for at, spot in enumerate(spread.spots) if course.parts_at(spot)]
    reads = least_reads(course, spread, goals, book.kinds, BEYOND)
    return told_deed(book.kinds.leaf, kind, reads) if reads is not None else None
