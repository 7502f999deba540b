"""Papers: [0.5], [0.6], [0.14], [0.19] to [0.21], [13.1] and stage 13."""

import itertools

import linkbooks.decide.papers as module
from linkbooks.base.rows import read_row
from linkbooks.book.books import DEEDS, Book, renamed_book
from linkbooks.decide.papers import is_good, is_paper, least_bad, paper, reads_of, realize
from linkbooks.decide.tables import Table, is_final, moves, start_of
from linkbooks.deeds.rows import is_deed, is_done
from linkbooks.errors import InvalidBook, InvalidOperation, InvalidRow, Spoilt, TooMany
from linkbooks.heaps.heaps import Heap
from tests.books import FULL, NOTHING, SHORT, STARTS
from tests.deciding import FEW, LESS, PlainTable, all_deeds, drawn_books, is_right, keys_in_row, outcome, stands_of
from tests.helper import BINOMIAL, GUIDED, STRANGE, Case
from tests.test_heaps import tree_of
from tests.test_rows import row_of
from tests.test_tables import GREAT_BOOK, STUCK, TOO_GREAT_BOOK, wrong_books, wrong_kinds

A = ("a",)
DRAWN = drawn_books(43, 60)

def counting(links):
    """Binary numbers, but with at most so many links of trees in a put or a meld."""
    notes = ["n" + "abcdefghij"[at // 10] + "abcdefghij"[at % 10] for at in range(links + 1)]
    pages = [f"page {note} a+a to a then {after}" for note, after in zip(notes, notes[1:])]
    lines = [line for line in BINOMIAL.lines if not line.startswith(("page", "start"))]
    return Book.from_lines(*lines, *[f"start {kind} {notes[0]}" for kind in DEEDS], *pages)


def keys_of_deed(book, row, deed):
    """The keys of a deed."""
    return keys_in_row(book, row) + (keys_in_row(book, deed[1]) if deed[0] == "meld" else 0)


class InterfaceTest(Case):
    def test_names(self):
        self.defined_in(module, "paper", "is_paper", "is_good", "least_bad", "realize", "reads_of")
        for call in (paper, is_good, least_bad):
            self.signature(call, "(book, kind)")
        self.signature(is_paper, "(book, kind, value)")
        self.signature(realize, "(book, kind, reads)")
        self.signature(reads_of, "(book, row, deed)")

    def test_examples(self):
        table = Table(BINOMIAL, "put")
        self.same([least_bad(BINOMIAL, "take"), is_good(LESS, "put"), paper(LESS, "meld")], [None, True, ("bad", (A, A), ("meld", (A, A)))])
        self.same([least_bad(LESS, "take"), is_paper(BINOMIAL, "put", ("good", table.stands)), is_paper(BINOMIAL, "put", ("good", ()))],
                  [((A, A, A), ("take", 2, ("a", "a", "a"))), True, False])
        self.same([reads_of(BINOMIAL, read_row("0 a"), ("take", 1, ("a", "a"))), realize(BINOMIAL, "put", (("a",), ("0",), ("a",)))],
                  [(("0", "a"), ("a", "!")), ((A, (), A), ("put",))])


class ByForceTest(Case):
    def test_least_bad(self):
        found = {}
        for book in (*FEW, *DRAWN, counting(2)):
            for kind in DEEDS:
                most = 8 if kind == "meld" else 10
                fails = [keys for keys, row, deed in all_deeds(book, kind, most) if not is_right(book, outcome(book, row, deed)[0])]
                pair = least_bad(book, kind)
                self.same([is_good(book, kind), Table(book, kind).is_good], [pair is None] * 2)
                if pair is None:
                    self.same(fails, [])
                else:
                    self.same([is_deed(book, *pair), pair[1][0], is_done(book, *pair)], [True, kind, False])
                    keys = keys_of_deed(book, *pair)
                    self.same(fails[:0] if keys > most else min(fails), fails if keys > most else keys)
                    found[kind, keys] = True
                found[kind, pair is None] = True
        self.assertGreater(len(found), 20)

    def test_papers(self):
        for book in (*FEW, *DRAWN):
            for kind in DEEDS:
                told = paper(book, kind)
                self.same(is_paper(book, kind, told), True)
                if told[0] == "good":
                    self.same([is_good(book, kind), told[1]], [True, Table(book, kind).stands])
                else:
                    pair = least_bad(book, kind)
                    self.same([is_good(book, kind), len(told), is_done(book, told[1], told[2])], [False, 3, False])
                    self.same(keys_of_deed(book, told[1], told[2]), keys_of_deed(book, *pair))
                self.same([is_paper(book, other, told) for other in DEEDS if other != kind and told[0] == "bad"], [False] * (2 * (told[0] == "bad")))

    def test_all_bad_papers_with_few_keys(self):
        for book in FEW:
            for kind in DEEDS:
                for _, row, deed in all_deeds(book, kind, 6)[:60]:
                    fails = not is_right(book, outcome(book, row, deed)[0])
                    self.same([is_paper(book, other, ("bad", row, deed)) for other in DEEDS], [fails and other == kind for other in DEEDS])

    def test_reads_there_and_back(self):
        for book in (*FEW, *DRAWN):
            for kind in DEEDS:
                for _, row, deed in all_deeds(book, kind, 6 if kind == "meld" else 9)[:70]:
                    reads, stands = reads_of(book, row, deed), stands_of(book, row, deed)
                    self.same([type(reads), len(reads), realize(book, kind, reads)], [tuple, len(stands) - 1, (row, deed)])
                    for stand, read, after in zip(stands, reads, stands[1:]):
                        self.assertIn((read, after), moves(book, kind, stand))

    def test_ways_of_a_table_are_realized(self):
        # A way to a final stand is read by a deed; a wrong final stand is reached by one that fails.
        for book in (*FEW, *DRAWN):
            for kind in DEEDS:
                table = Table(book, kind)
                for stand in table.finals:
                    reads = tuple(move[0] for move in table.way_to(stand))
                    row, deed = realize(book, kind, reads)
                    self.same([is_deed(book, row, deed), deed[0], is_done(book, row, deed)], [True, kind, stand[5]])
                    self.same(reads_of(book, row, deed), reads)


class GoodPaperTest(Case):
    def test_each_stand_is_needed(self):
        for book, kind in ((BINOMIAL, "put"), (BINOMIAL, "take"), (LESS, "put"), (GUIDED, "put")):
            stands = Table(book, kind).stands
            for at in range(len(stands)):
                # Each one follows from another one, or is the start.
                self.same(is_paper(book, kind, ("good", stands[:at] + stands[at + 1:])), False)

    def test_more_stands(self):
        # Stands that no deed comes to may be told, too, if all that is live behind them is told.
        stands = Table(LESS, "put").stands
        more = tuple(sorted({*stands, (0, ("z",), (), "m", "s", True)}))
        self.same([is_paper(LESS, "put", ("good", more)), len(more)], [True, len(stands) + 1])
        wrong = tuple(sorted({*stands, (0, ("",), (), "m", "o", False)}))
        self.same(is_paper(LESS, "put", ("good", wrong)), False)
        follow = (0, ("o",), ("a", "a"), "m", "o", True)
        self.same(is_paper(LESS, "put", ("good", tuple(sorted({*stands, follow})))), False)

    def test_stands_that_are_not_live(self):
        # From x rows are read on for ever. What comes to x need not be told, but it may be.
        book = Book.from_lines("leaf a", "kind a a+a", "first s", "ends o", "read s 0 x", "read x 0 x", "read x a x", "read s a+a o", *STARTS,
                               "page m a to 0 then m", "page m a+a+a to 0 then m")
        stands, dead = Table(book, "meld").stands, (0, ("x", ""), (), "m", "", True)
        follow = [stand for _, stand in moves(book, "meld", start_of(book, "meld"))]
        self.same([is_good(book, "meld"), [stand in stands for stand in follow if "x" in stand[1]]], [False, [False] * 5])
        alone = book.without("read s a+a o")
        self.same([paper(alone, kind)[0] for kind in DEEDS], ["bad", "good", "good"])
        for kind, dead in (("meld", (0, ("x", ""), (), "m", "x", True)), ("take", (0, ("x", "a"), (), "m", "x", True))):
            stands = Table(alone, kind).stands
            self.same([len(stands), dead in stands, is_paper(alone, kind, ("good", stands))], [1, False, True])
            self.same([is_paper(alone, kind, ("good", tuple(sorted((*stands, dead))))), is_paper(alone, kind, ("good", (dead,)))], [True, False])

    def test_order_and_form(self):
        stands = Table(BINOMIAL, "put").stands
        for value in (stands[::-1], (*stands, stands[-1]), (stands[0], *stands), list(stands), {stand: 1 for stand in stands}, (*stands, None),
                      tuple(list(stand) for stand in stands), tuple((True, *stand[1:]) for stand in stands), stands[0], None, 0, "good", (None,),
                      tuple((False, *stand[1:]) for stand in stands), tuple((*stand[:5], int(stand[5])) for stand in stands)):
            self.same(is_paper(BINOMIAL, "put", ("good", value)), False)
        for value in (("good",), ("good", stands, ()), ("Good", stands), ("bad", stands), [("good"), stands], stands, "good", (stands, "good"),
                      ("good", stands, ("put",)), (None, stands), (("good",), stands), *STRANGE):
            self.same(is_paper(BINOMIAL, "put", value), False)
        self.same([is_paper(BINOMIAL, kind, ("good", stands)) for kind in DEEDS], [True, False, False])

    def test_a_bad_book_has_no_good_paper(self):
        for book in (*FEW, *DRAWN[:20]):
            for kind in DEEDS:
                plain = PlainTable(book, kind)
                self.same(is_paper(book, kind, ("good", plain.stands)), not plain.wrong)
                self.same(is_paper(book, kind, ("good", tuple(sorted(plain.moves)))), not plain.wrong)
                if plain.wrong:
                    rest = tuple(stand for stand in plain.stands if stand not in plain.wrong)
                    self.same(is_paper(book, kind, ("good", rest)), False)

    def test_more_than_20000_stands(self):
        # It judges all the same.
        deeds = [(row, deed) for _, row, deed in all_deeds(TOO_GREAT_BOOK, "meld", 9)]
        judged = [is_paper(TOO_GREAT_BOOK, "meld", ("bad", *pair)) for pair in deeds]
        self.same([judged, sorted(set(judged))], [[not is_right(TOO_GREAT_BOOK, outcome(TOO_GREAT_BOOK, *pair)[0]) for pair in deeds], [False, True]])
        start = start_of(TOO_GREAT_BOOK, "meld")
        for value in (("good", ()), ("good", (start,)), ("bad", (), ("meld", ())), None):
            self.same(is_paper(TOO_GREAT_BOOK, "meld", value), False)
        for call in (paper, is_good, least_bad):
            self.refused_with(TooMany, "limit", 20000, call, TOO_GREAT_BOOK, "meld")
        stands = Table(GREAT_BOOK, "meld").stands
        self.same([is_paper(GREAT_BOOK, "meld", ("good", stands)), is_good(GREAT_BOOK, "meld")], [False, False])


class BadPaperTest(Case):
    def test_near_a_bad_paper(self):
        self.same(is_paper(LESS, "meld", ("bad", (A, A), ("meld", (A, A)))), True)
        for value in (("bad", (A, A), ("meld", (A,))), ("bad", (A, A), ("put",)), ("bad", (A, A)), ("bad", (A, A), ("meld", (A, A)), ()),
                      ["bad", (A, A), ("meld", (A, A))], ("good", (A, A), ("meld", (A, A))), ("bad", [A, A], ("meld", (A, A))),
                      ("bad", (A, A), ["meld", (A, A)]), ("bad", (A, A, ()), ("meld", (A, A))), ("bad", (("a", "a"),), ("meld", (A, A))),
                      ("bad", (A, A), ("meld", (A, ("a", "a")))), ("bad", (A, A), ("meld", (A, A), A)), ("bad", None, None), ("bad", (A, A), None),
                      ("bad", (A, A), ("take", 1, A)), ("bad", ("meld", (A, A)), (A, A)), ("BAD", (A, A), ("meld", (A, A)))):
            self.same([is_paper(LESS, kind, value) for kind in DEEDS], [False] * 3)

    def test_any_failing_deed_will_do(self):
        great = read_row("a a 0 a a 0 a")
        self.same([is_paper(LESS, "meld", ("bad", great, ("meld", great))), is_done(LESS, great, ("meld", great))], [True, False])
        self.same(is_paper(LESS, "meld", ("bad", great, ("meld", read_row("0 0 a")))), is_done(LESS, great, ("meld", read_row("0 0 a"))) is False)
        row = ((),) * 399 + (A,)
        self.same([is_paper(LESS, "meld", ("bad", (A, A, *row[2:]), ("meld", (A, A)))), is_paper(LESS, "meld", ("bad", row_of(401), ("meld", row_of(401))))],
                  [True, False])

    def test_far_from_the_start(self):
        # Each link changes the note, and behind the last one no link is made any more.
        for many in (1, 2, 5, 30, 79):
            book = counting(many)
            self.same([least_bad(book, "put"), paper(book, "put")], [((A,) * (many + 1), ("put",)), ("bad", (A,) * (many + 1), ("put",))])
        self.same(keys_of_deed(counting(5), *least_bad(counting(5), "put")), 63)
        self.same(keys_of_deed(counting(5), *least_bad(counting(5), "meld")), 6)
        keys = keys_of_deed(counting(4), *least_bad(counting(4), "take"))
        self.same(keys, min(keys for keys, *pair in all_deeds(counting(4), "take", 70) if not is_right(counting(4), outcome(counting(4), *pair)[0])))

    def test_fewest_keys_and_not_fewest_ranks(self):
        book = Book.from_lines("leaf a", "kind a a+a", "kind b a+a+a", "first s", "ends o", "read s 0 x", "read x b+b o", "read x 0 y", "read y a o", *STARTS)
        few, great = read_row("0 0 a"), read_row("0 b+b")
        self.same([is_done(book, great, ("meld", great)), keys_of_deed(book, great, ("meld", great))], [False, 12])
        self.same([least_bad(book, "meld"), keys_of_deed(book, few, ("meld", few))], [(few, ("meld", few)), 8])

    def test_no_more_ranks_than_stands(self):
        for book in (*FEW, *DRAWN, counting(2)):
            for kind in DEEDS:
                table = Table(book, kind)
                if not table.is_good:
                    ways = [table.way_to(stand) for stand in table.wrong]
                    row, deed = realize(book, kind, tuple(move[0] for move in min(ways, key=len)))
                    self.same([is_done(book, row, deed), len(row) <= len(table)], [False, True])


class RealizeTest(Case):
    def test_empty_rows(self):
        self.same([realize(BINOMIAL, "meld", ()), reads_of(BINOMIAL, (), ("meld", ()))], [((), ("meld", ())), ()])
        self.same([realize(BINOMIAL, "put", (("",),)), reads_of(BINOMIAL, (), ("put",))], [((), ("put",)), (("",),)])
        self.same([realize(BINOMIAL, "meld", (("a", ""),)), realize(BINOMIAL, "meld", (("", "a"),))], [((A,), ("meld", ())), ((), ("meld", (A,)))])
        self.same([realize(BINOMIAL, "take", (("a", "!"),)), realize(BINOMIAL, "take", (("a", "!"), ("0", ""), ("a", "")))],
                  [((A,), ("take", 0, A)), ((A, (), A), ("take", 0, A))])

    def test_what_is_carried_above_the_rows(self):
        self.same(reads_of(BINOMIAL, (A, A), ("put",)), (("a",), ("a",), ("",)))
        self.same([realize(BINOMIAL, "put", (("a",), ("a",), ("",))), realize(BINOMIAL, "meld", (("a", "a"), ("", "")))], [((A, A), ("put",)), ((A,), ("meld", (A,)))])
        self.refused(InvalidOperation, realize, BINOMIAL, "put", (("a",), ("a",)))

    def test_reads_that_lead_nowhere(self):
        for kind, values in (("put", [(), (("0",),), (("a",),), (("a+a",), ("",)), (("a",), ("",), ("",)), (("",), ("a",)), (("",), ("",)), ("a",), (["a"], [""]),
                                      (("a", ""),), [("",)], ((""),), (("x",),), (("",), None), ((None,),), ((("",),),), (("a",), ("0",)), (("a",), ("0",), ("0",))]),
                             ("meld", [(("", ""),), (("a",),), (("a", "a"),), (("0", "0"),), (("a", ""), ("", "")), (("a", ""), ("", ""), ("a", "")), [("a", "")], (("", "", ""),)]),
                             ("take", [(), (("a", ""),), (("a", "a"),), (("0", "!"),), (("a", "!"), ("0", "")), (("a", "!"), ("a", "!")), (("a", "b"), ("a", "!")),
                                       (("", "!"),), (("a", "!"), ("", "")), (("0", "a"), ("a", "")), ("a!",), (["a", "!"],)])):
            for reads in (*values, *[value for value in STRANGE if not (kind == "meld" and isinstance(value, tuple) and value == ())]):
                self.refused(InvalidOperation, realize, BINOMIAL, kind, reads)

    def test_400_and_401(self):
        reads = (("a",), *[("0",)] * 398, ("a",))
        self.refused(InvalidOperation, realize, BINOMIAL, "put", (*reads, ("",)))
        row = (A, *((),) * 398, A)
        self.same([realize(BINOMIAL, "put", reads) == (row, ("put",)), reads_of(BINOMIAL, row, ("put",)) == reads], [True, True])
        ones = (A,) * 399
        self.same(realize(BINOMIAL, "put", reads_of(BINOMIAL, ones, ("put",))) == (ones, ("put",)), True)
        self.same(len(reads_of(BINOMIAL, (A,) * 400, ("put",))), 401)
        self.refused(InvalidOperation, realize, BINOMIAL, "put", reads_of(BINOMIAL, (A,) * 400, ("put",)))
        self.same(realize(BINOMIAL, "take", (*[("0", "a")] * 399, ("a", "!"))) == (((),) * 399 + (A,), ("take", 399, A * 400)), True)

    def test_final_stands_only(self):
        for book in (BINOMIAL, GUIDED, SHORT):
            for kind in DEEDS:
                table = Table(book, kind)
                for stand in table:
                    reads = tuple(move[0] for move in table.way_to(stand))
                    if is_final(book, kind, stand):
                        self.same(is_deed(book, *realize(book, kind, reads)), True)
                    else:
                        self.refused(InvalidOperation, realize, book, kind, reads)


class HeapsTest(Case):
    def heaps(self, book):
        """Small heaps of a book, by all puts that are done."""
        heaps, heap = [Heap(book)], Heap(book)
        for key in (5, 3, 8, 1, 9, 2, 7):
            try:
                heap = heap.put(key)
            except Spoilt:
                break
            heaps.append(heap)
        return heaps

    def done(self, heap, deed, call, *args):
        """A deed on a heap is done just if the one on its row is; otherwise it is spoilt with the same new row."""
        book, kind = heap.book, deed[0]
        row, right = outcome(book, heap.outline, deed)[0], is_done(book, heap.outline, deed)
        if right:
            self.same(call(*args).outline, row)
            return
        self.refused_with(Spoilt, "row", row, call, *args)
        self.same(is_good(book, kind), False)
        self.assertGreaterEqual(keys_of_deed(book, heap.outline, deed), keys_of_deed(book, *least_bad(book, kind)))
        self.same(is_paper(book, kind, ("bad", heap.outline, deed)), True)

    def test_heaps_beside_rows(self):
        for book in (*FEW, *DRAWN[:25]):
            heaps = self.heaps(book)
            for heap in heaps:
                self.done(heap, ("put",), heap.put, 4)
                if heap:
                    self.done(heap, heap.next_take, heap.take)
            for one, other in itertools.product(heaps, repeat=2):
                self.done(one, ("meld", other.outline), one.meld, other)

    def test_the_least_failing_deed_spoils_a_heap(self):
        for book in (LESS, FULL, GUIDED):
            for kind in DEEDS:
                pair = least_bad(book, kind)
                if pair is not None and kind != "take":
                    heap = self.heap_of(book, pair[0])
                    call, args = (heap.put, (1,)) if kind == "put" else (heap.meld, (self.heap_of(book, pair[1][1]),))
                    self.refused_with(Spoilt, "row", outcome(book, *pair)[0], call, *args)

    def heap_of(self, book, row):
        return Heap.of_trees(book, tuple(tuple(tree_of(book.kinds, range(1 << rank)) for _ in digit) for rank, digit in enumerate(row)))


class StatementsTest(Case):
    def test_what_is_not_true(self):
        # A book that is good for puts is good for melds.
        self.same([is_good(GUIDED, kind) for kind in DEEDS], [True, False, False])
        # A book that is good for melds, and in which the children of trees are right rows, is good for takes.
        book = BINOMIAL.with_line("start take t")
        self.same([is_good(book, kind) for kind in DEEDS], [True, True, False])
        self.same(all(is_right(book, book.ranks.children_of(A * (rank + 1))) for rank in range(10)), True)
        # If each meld of right rows with one key each is done, each meld is.
        self.same([is_done(LESS, (A,), ("meld", (A,))), is_good(LESS, "meld")], [True, False])

    def test_a_page_that_no_stand_meets_can_go(self):
        more = BINOMIAL.with_line("page q a+a to 0 then q").with_line("page m a+a+a+a to a+a then m")
        for kind in DEEDS:
            self.same(Table(more, kind).stands, Table(BINOMIAL, kind).stands)
            self.same(is_paper(BINOMIAL, kind, paper(more, kind)), True)

    def test_other_names(self):
        for book in (*FEW, *DRAWN[:15]):
            other = renamed_book(book, kinds={name: "x" + name for name in book.kinds.names}, notes=None)
            for kind in DEEDS:
                one, two = least_bad(book, kind), least_bad(other, kind)
                self.same(one is None, two is None)
                if one is not None:
                    self.same(keys_of_deed(book, *one), keys_of_deed(other, *two))


class ErrorsTest(Case):
    def test_no_book(self):
        for call, more in ((paper, ()), (is_paper, (None,)), (is_good, ()), (least_bad, ()), (realize, ((),))):
            wrong_books(self, call, "put", *more)
        for value in STRANGE:
            if not isinstance(value, Book):
                self.refused(InvalidBook, reads_of, value, (A,), ("put",))
                self.refused(InvalidBook, reads_of, value, None, None)

    def test_no_kind_of_deeds(self):
        for call, more in ((paper, ()), (is_paper, (("good", ()),)), (is_good, ()), (least_bad, ()), (realize, ((("",),),))):
            wrong_kinds(self, call, *more)

    def test_reads_of_what_is_no_deed(self):
        for value in STRANGE:
            if not (isinstance(value, tuple) and value == ()):
                self.refused(InvalidRow, reads_of, BINOMIAL, value, ("put",))
                self.refused(InvalidRow, reads_of, BINOMIAL, value, None)
            self.refused(InvalidOperation, reads_of, BINOMIAL, (A,), value)
        self.refused(InvalidOperation, reads_of, BINOMIAL, (A,), ("take", 1, ("a", "a")))
        self.refused(InvalidRow, reads_of, BINOMIAL, (("a", "a"),), ("put",))

    def test_equal_calls(self):
        for book in (LESS, GUIDED, NOTHING):
            for kind in DEEDS:
                self.same([paper(book, kind), least_bad(book, kind)], [paper(book, kind), least_bad(book, kind)])
