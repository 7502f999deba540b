"""Uses: [0.4], [0.6], [0.12], [0.21], [16.1] to [16.3] and stage 16."""

import itertools

import linkbooks.decide.uses as module
from linkbooks.base.rows import read_row
from linkbooks.book.books import DEEDS, Book
from linkbooks.decide.tables import Table
from linkbooks.decide.uses import lacking, least_meeting, met, parting_deed, spared, unmet
from linkbooks.deeds.rows import is_deed, new_row, steps
from linkbooks.errors import InvalidBook, InvalidOperation, LinkError, TooMany, UnknownName
from linkbooks.read.readers import includes
from tests.books import ALONE, HYPER, NOTHING, STARTS, TERNARY, TURNS, rows_up_to
from tests.deciding import FEW, LESS, PlainTable, all_deeds, drawn_books, outcome
from tests.helper import BINOMIAL, GUIDED, STRANGE, Case
from tests.machines import pages_of
from tests.test_papers import counting, keys_of_deed
from tests.test_tables import GREAT_BOOK, TOO_GREAT_BOOK, wrong_books, wrong_kinds

A = ("a",)
DRAWN = drawn_books(59, 60)


def pages_met(book, row, deed):
    """The places of the pages that a deed meets, by the machine that the tests make."""
    _, gone_steps = outcome(book, row, deed)
    notes = (book.starts[deed[0]], *[step[2] for step in gone_steps])
    pages = pages_of(book.lines)
    return [(note, pool) for note, (pool, _, _) in zip(notes, gone_steps) if (note, pool) in pages]


def line_at(book, place):
    """The line of the page of a place."""
    return next(page.line for page in book.machine.pages if page.place == place)


class InterfaceTest(Case):
    def test_names(self):
        self.defined_in(module, "met", "least_meeting", "unmet", "spared", "lacking", "parting_deed")
        for call in (met, lacking):
            self.signature(call, "(book, kind)")
        self.signature(least_meeting, "(book, kind, line)")
        for call in (unmet, spared):
            self.signature(call, "(book)")
        self.signature(parting_deed, "(book, other, kind)")

    def test_examples(self):
        self.same([met(LESS, "meld"), lacking(LESS, "meld"), unmet(GUIDED), len(met(GUIDED, "put")), spared(BINOMIAL) == BINOMIAL],
                  [("page m a+a to a then m",), (("m", ("a", "a", "a")),), (), 6, True])
        self.same([least_meeting(GUIDED, "put", "page k a+a to a then d"), parting_deed(BINOMIAL, LESS, "put"), parting_deed(BINOMIAL, LESS, "meld")],
                  [(((), ("a", "a")), ("put",)), None, ((A, A), ("meld", (A, A)))])


class MetTest(Case):
    def test_against_moves_of_a_second_table(self):
        for book in (*FEW, *DRAWN):
            for kind in DEEDS:
                inner = PlainTable(book, kind).inner_moves()
                places = {(stand[3], pool) for stand, _, _, pool, _ in inner}
                self.same(met(book, kind), tuple(sorted(line_at(book, place) for place in pages_of(book.lines) if place in places)))

    def test_against_deeds_with_few_keys(self):
        found = set()
        for book in (*FEW, *DRAWN):
            for kind in DEEDS:
                most = 7 if kind == "meld" else 11
                least = {}
                for keys, row, deed in all_deeds(book, kind, most):
                    for place in pages_met(book, row, deed):
                        line = line_at(book, place)
                        least[line] = min(least.get(line, keys), keys)
                lines = met(book, kind)
                self.assertLessEqual(set(least), set(lines))
                for page in book.machine.pages:
                    pair = least_meeting(book, kind, page.line)
                    self.same(pair is not None, page.line in lines)
                    if pair is not None:
                        keys = keys_of_deed(book, *pair)
                        self.same([is_deed(book, *pair), pair[1][0], page.place in pages_met(book, *pair)], [True, kind, True])
                        self.same(least.get(page.line), keys if keys <= most else None)
                    found.add((kind, pair is None))
        self.same(len(found), 6)

    def test_far_from_the_start(self):
        book = counting(40)
        lines = sorted(page.line for page in book.machine.pages)
        self.same([met(book, "put"), least_meeting(book, "put", lines[-1])], [tuple(lines), ((A,) * 40, ("put",))])
        self.same([keys_of_deed(book, *least_meeting(book, "meld", line)) for line in lines[:3]], [2, 4, 8])

    def test_deeds_that_fail_count(self):
        book = ALONE.with_line("page m a+a+a to 0 then x").with_line("page x a+a to 0 then x")
        self.same([met(book, "put"), least_meeting(book, "put", "page m a+a+a to 0 then x"), met(book, "meld"), met(book, "take")],
                  [("page m a+a+a to 0 then x",), ((("a", "a"),), ("put",)), (), ()])

    def test_pages_with_pools_that_are_empty(self):
        self.same([least_meeting(GUIDED, "put", "page k 0 to 0 then e"), "page k 0 to 0 then e" in met(GUIDED, "meld")], [(((), (), A), ("put",)), False])
        book = BINOMIAL.with_line("page m 0 to 0 then m")
        self.same([least_meeting(book, kind, "page m 0 to 0 then m") for kind in ("put", "take")], [(((), (), A), ("put",)), ((A,), ("take", 0, A))])
        row, deed = least_meeting(book, "meld", "page m 0 to 0 then m")
        self.same([keys_of_deed(book, row, deed), () in [pool for pool, _, _ in steps(book, row, deed)]], [2, True])

    def test_no_deeds(self):
        book = NOTHING.with_line("page m a to 0 then m").with_line("page m 0 to 0 then m")
        self.same([met(book, kind) for kind in DEEDS], [("page m a to 0 then m",), (), ()])
        self.same([least_meeting(book, kind, "page m 0 to 0 then m") for kind in DEEDS], [None] * 3)


class SparedTest(Case):
    def test_unmet(self):
        some = 0
        for book in (*FEW, *DRAWN):
            lines = {line for kind in DEEDS for line in met(book, kind)}
            self.same(unmet(book), tuple(sorted(page.line for page in book.machine.pages if page.line not in lines)))
            some += bool(unmet(book)) and bool(lines)
        self.assertGreater(some, 10)

    def test_the_rest_does_the_same(self):
        for book in (*FEW, *DRAWN):
            rest = spared(book)
            self.same([unmet(rest), rest.reader.spare, rest.kinds == book.kinds, rest.starts], [(), (), True, book.starts])
            self.same([includes(rest.reader, book.reader), includes(book.reader, rest.reader)], [True, True])
            self.same(rows_up_to(rest, 12), rows_up_to(book, 12))
            reads = {line for line in book.lines if line.startswith("read")}
            self.same(sorted({*rest.lines, *unmet(book), *reads}), sorted(book.lines))
            for kind in DEEDS:
                self.same([Table(rest, kind).is_good, parting_deed(book, rest, kind), met(rest, kind)], [Table(book, kind).is_good, None, met(book, kind)])
                # A line that can be spared can lead along new digits that are not right in the end.
                self.assertTrue(Table(rest, kind).stands == Table(book, kind).stands or rest.reader != book.reader)
                for _, row, deed in all_deeds(book, kind, 5)[:40]:
                    self.same([new_row(rest, row, deed), steps(rest, row, deed)], [new_row(book, row, deed), steps(book, row, deed)])

    def test_known(self):
        more = BINOMIAL.with_line("page q a+a to 0 then q").with_line("page m a+a+a+a to a+a then m").with_line("read z a+a x").with_line("read x 0 x")
        self.same([unmet(more), spared(more) == BINOMIAL, spared(spared(more)) == BINOMIAL, more.size], [("page m a+a+a+a to a+a then m", "page q a+a to 0 then q"), True, True, 12])
        self.same([unmet(TERNARY), len(spared(TERNARY).machine)], [("page m a+a+a+a+a+a to a+a then m",), 3])
        self.same(spared(NOTHING.with_line("page m a+a to a then m").with_line("read s 0 z").with_line("read z 0 z")) == NOTHING, True)


class LackingTest(Case):
    def test_against_moves_of_a_second_table(self):
        some = 0
        for book in (*FEW, *DRAWN):
            for kind in DEEDS:
                pages = pages_of(book.lines)
                wanted = {
                    (stand[3], pool) for stand, _, after, pool, _ in PlainTable(book, kind).inner_moves()
                    if (stand[3], pool) not in pages and pool and stand[4] and not after[4]}
                self.same(lacking(book, kind), tuple(sorted(wanted)))
                some += bool(wanted)
        self.assertGreater(some, 40)

    def test_against_deeds_with_few_keys(self):
        for book in (*FEW, *DRAWN):
            for kind in DEEDS:
                places, pages = lacking(book, kind), pages_of(book.lines)
                for _, row, deed in all_deeds(book, kind, 6 if kind == "meld" else 9):
                    new, gone_steps = outcome(book, row, deed)
                    notes = (book.starts[kind], *[step[2] for step in gone_steps])
                    for rank, (note, (pool, _, _)) in enumerate(zip(notes, gone_steps)):
                        ahead = book.reader.behind(new[:rank] + ((),) * (rank - len(new[:rank])))
                        if pool and (note, pool) not in pages and ahead and not book.reader.reads.get((ahead, pool), ""):
                            self.assertIn((note, pool), places)

    def test_what_a_page_leaves_is_not_lacking(self):
        book = LESS.with_line("page m a+a+a to 0 then m")
        self.same([lacking(book, "meld"), lacking(LESS, "put"), lacking(BINOMIAL, "meld")], [(), (), ()])
        self.same(lacking(ALONE, "put"), (("m", A), ("m", ("a", "a", "a"))))
        # The same pool is lacking with one note, and not with another one.
        self.same([place[0] for place in lacking(GUIDED, "meld")], ["e", "e", "e"])


class PartingTest(Case):
    def few_deeds(self, book, other, kind, most):
        """The deeds with few keys in rows that are right in both books."""
        return [(keys, row, deed) for keys, row, deed in all_deeds(book, kind, most)
                if other.is_right(row) and (kind != "meld" or other.is_right(deed[1]))]

    def check(self, book, other, kind, most):
        pair = parting_deed(book, other, kind)
        wanted = min((keys for keys, row, deed in self.few_deeds(book, other, kind, most) if outcome(book, row, deed)[0] != outcome(other, row, deed)[0]), default=None)
        if pair is None:
            self.same(wanted, None)
            return None
        row, deed = pair
        self.same([is_deed(book, row, deed), is_deed(other, row, deed), deed[0], new_row(book, row, deed) != new_row(other, row, deed)], [True, True, kind, True])
        keys = keys_of_deed(book, row, deed)
        self.same(keys if keys <= most else None, wanted)
        return keys

    def test_books_that_are_near_each_other(self):
        found = set()
        for book in (*FEW, *DRAWN[:30]):
            for line in [page.line for page in book.machine.pages][:3] + [line for line in book.lines if line.startswith("read")][:2]:
                other = book.without(line)
                for kind in DEEDS:
                    found.add((kind, self.check(book, other, kind, 6 if kind == "meld" else 9)))
        self.assertGreater(len(found), 12)

    def test_books_with_other_readers_and_machines(self):
        found = set()
        for one, other in itertools.permutations([book for book in (*FEW, *DRAWN) if book.kinds == BINOMIAL.kinds][:14], 2):
            for kind in DEEDS:
                found.add((kind, self.check(one, other, kind, 6 if kind == "meld" else 9)))
        self.assertGreater(len(found), 12)

    def test_both_ways(self):
        for kind in DEEDS:
            pair, back = parting_deed(BINOMIAL, HYPER, kind), parting_deed(HYPER, BINOMIAL, kind)
            self.same(pair is None, back is None)
            if pair is not None:
                self.same(keys_of_deed(BINOMIAL, *pair), keys_of_deed(BINOMIAL, *back))

    def test_the_same_rows_by_other_links(self):
        # Both come to the same rows, with other notes.
        lines = [line.replace(" m", " q").replace("page q", "page q") if line.startswith(("page", "start")) else line for line in BINOMIAL.lines]
        lines = [line.replace("start qeld", "start meld") for line in lines]
        other = Book.from_lines(*lines)
        self.same([parting_deed(BINOMIAL, other, kind) for kind in DEEDS], [None] * 3)

    def test_one_goes_on_above_the_rows(self):
        # Right or not: one links two trees, the other one leaves them.
        other = BINOMIAL.without("page m a+a to a then m")
        self.same([parting_deed(BINOMIAL, other, kind) for kind in DEEDS], [((A,), ("put",)), ((A,), ("meld", (A,))), parting_deed(BINOMIAL, other, "take")])
        row, deed = parting_deed(BINOMIAL, other, "take")
        self.same([keys_of_deed(BINOMIAL, row, deed), new_row(other, row, deed)], [3, (("a", "a"),)])

    def test_no_rows_in_common(self):
        lines = ["leaf a", "kind a a+a", "first s", "ends o", *STARTS]
        one = Book.from_lines(*lines, "read s a o", "page m a to 0 then m")
        other = Book.from_lines(*lines, "read s a+a o", "page m a+a to a then m")
        self.same([parting_deed(one, other, kind) for kind in DEEDS], [None] * 3)
        self.same(parting_deed(one, Book.from_lines(*lines, "read s 0 x", "read x a o"), "take"), None)

    def test_two_kinds(self):
        other = TURNS.without("page m b+b to a then m")
        for kind in DEEDS:
            self.assertIsNotNone(self.check(TURNS, other, kind, 8))


class ErrorsTest(Case):
    def test_no_book(self):
        for call, more in ((met, ("put",)), (least_meeting, ("put", "page m a+a to a then m")), (unmet, ()), (spared, ()), (lacking, ("put",)), (parting_deed, (BINOMIAL, "put"))):
            wrong_books(self, call, *more)
        for value in STRANGE:
            if not isinstance(value, Book):
                self.refused(InvalidBook, parting_deed, BINOMIAL, value, "put")
                self.refused(InvalidBook, parting_deed, BINOMIAL, value, None)

    def test_no_kind_of_deeds(self):
        for call, more in ((met, ()), (lacking, ()), (least_meeting, ("page m a+a to a then m",)), (least_meeting, ("page",))):
            wrong_kinds(self, call, *more)
        for value in (*STRANGE, "puts", ("put",), 0):
            self.refused(InvalidOperation, parting_deed, BINOMIAL, GUIDED, value)

    def test_books_with_other_kinds(self):
        for other in (TERNARY, TURNS, ALONE):
            for kind in (*DEEDS, "puts", None):
                self.refused(InvalidOperation, parting_deed, BINOMIAL, other, kind)
        self.refused(InvalidOperation, parting_deed, TOO_GREAT_BOOK, GREAT_BOOK, "meld")

    def test_lines_of_no_page(self):
        for value in (*STRANGE, "page", "page m a+a to a", "page n a+a to a then m", "page m a+a to a then n", "leaf a", "read s a o", "start put m", "page m a+a to a then m ",
                      BINOMIAL.machine.pages[0], ("page m a+a to a then m",), "page m a to 0 then m"):
            for book, kind in ((BINOMIAL, "put"), (TOO_GREAT_BOOK, "meld")):
                with self.assertRaises(UnknownName) as caught:
                    least_meeting(book, kind, value)
                self.assertIs(caught.exception.word, value)

    def test_too_many(self):
        for call, more in ((met, ("meld",)), (lacking, ("meld",)), (least_meeting, ("meld", TOO_GREAT_BOOK.machine.pages[0].line)), (unmet, ()), (spared, ())):
            self.refused_with(TooMany, "limit", 20000, call, TOO_GREAT_BOOK, *more)
        less = GREAT_BOOK.without(GREAT_BOOK.machine.pages[30].line)
        self.refused_with(TooMany, "limit", 20000, parting_deed, GREAT_BOOK, less, "meld")
        self.same([len(met(TOO_GREAT_BOOK, "put")) > 40, issubclass(UnknownName, LinkError)], [True, False])

    def test_nothing_is_changed(self):
        for book in (LESS, GUIDED):
            before = book.lines
            self.same([spared(book), spared(book), unmet(book)][2], unmet(book))
            self.same([spared(book) == spared(book), [met(book, kind) for kind in DEEDS], book.lines], [True, [met(book, kind) for kind in DEEDS], before])
        self.same(least_meeting(BINOMIAL, "put", "page m a+a to a then m"), ((A,), ("put",)))
        self.same(new_row(BINOMIAL, read_row("a"), ("put",)), ((), A))
