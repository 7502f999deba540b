"""A bench: [0.2], [0.4], [17.1], [17.2] and stage 17."""

import random

import linkbooks.use.bench as module
from linkbooks.base.rows import read_row
from linkbooks.book.books import DEEDS, Book
from linkbooks.decide.links import links_bound
from linkbooks.decide.papers import is_good
from linkbooks.decide.plans import Plan, are_alike
from linkbooks.deeds.rows import is_deed, is_done
from linkbooks.errors import (
    InvalidBook, InvalidKinds, InvalidNumber, InvalidOperation, InvalidPage, InvalidReader, LinkError, NothingToUndo, ParseError, Refused, TooMany, UnknownName,
)
from linkbooks.use.bench import Bench
from tests.books import FULL, HYPER, TERNARY
from tests.deciding import LESS, drawn_page
from tests.helper import BINOMIAL, GUIDED, STRANGE, TOO_GREAT, Case
from tests.test_papers import counting
from tests.test_tables import GREAT_BOOK, TOO_GREAT_BOOK

A = ("a",)
LINE = "page m a+a+a to a then m"
OTHER_LINE = "page m a+a to a then m"
NO_COUNTS = [value for value in STRANGE if type(value) is not int or not 0 <= value < TOO_GREAT]
PLEDGES = (
    ("good", "put"), ("good", "meld"), ("good", "take"), ("links", "put", 0), ("links", "put", 1), ("links", "meld", 3), ("links", "take", 1), ("alike", "(A+B)", "(B+A)"),
    ("alike", "(A'+B)", "(A+B)'"), ("alike", "A", "A"), ("alike", "((A+B)+C)", "(A+(B+C))"), ("alike", "A'", "A"), ("done", (), ("put",)), ("done", (A,), ("put",)), ("done", (A, A), ("meld", (A,))),
    ("done", (), ("meld", ())), ("done", (A,), ("take", 0, A)), ("done", ((), A), ("take", 1, A * 2)), ("done", (("a", "a"),), ("put",)), ("done", (A,), ("take", 1, A * 2)),
)
NO_PLEDGES = (
    *STRANGE, "good put", ("good",), ("good", "puts"), ("good", "put", 1), ["good", "put"], ("Good", "put"), ("good", ("put",)), ("good", None), ("links", "put"), ("links", "put", -1),
    ("links", "put", True), ("links", "put", None), ("links", "put", "3"), ("links", "put", TOO_GREAT), ("links", "puts", 3), ("links", 3, "put"), ("alike", "A"), ("alike", "A", "D"),
    ("alike", "A", None), ("alike", Plan("A"), Plan("A")), ("alike", "A", "A", "A"), ("alike", "A+B", "A"), ("done", (A,)), ("done", (A,), "put"), ("done", (A,), ("puts",)),
    ("done", ("a",), ("put",)), ("done", (A, ()), ("put",)), ("done", (A,), ("take", 0)), ("done", (A,), ("take", 0, ())), ("done", (A,), ("take", 1, A)), ("done", (A,), ("take", 401, A * 402)),
    ("done", (A,), ("take", True, A * 2)), ("done", (A,), ("meld", ((),))), ("done", ("put",), (A,)), ("done", [A], ("put",)), ("done", (A,), ["put"]), ("waive", "put"), (), ("good", "put", "meld", "take"),
)


def holds(book, pledge):
    """Whether a pledge holds, by the functions of the other stages."""
    if pledge[0] == "good":
        return is_good(book, pledge[1])
    if pledge[0] == "links":
        return links_bound(book, pledge[1]) is not None and links_bound(book, pledge[1]) <= pledge[2]
    if pledge[0] == "alike":
        return are_alike(book, Plan(pledge[1]), Plan(pledge[2]))
    return book.is_right(pledge[1]) and is_deed(book, pledge[1], pledge[2]) and is_done(book, pledge[1], pledge[2])


class Record:
    """What a bench should be: all books and pledges, with those that were taken back."""

    def __init__(self, book):
        self.layouts, self.at = [(book.lines, ())], 0

    def now(self):
        return self.layouts[self.at]

    def goods(self, at):
        book = Book.from_lines(*self.layouts[at][0])
        return [(kind, is_good(book, kind)) for kind in DEEDS]

    def move(self, at):
        before, self.at = self.goods(self.at), at
        return tuple(after for one, after in zip(before, self.goods(at)) if one != after)

    def change(self, lines, pledges):
        self.layouts = self.layouts[:self.at + 1] + [(lines, pledges)]
        return self.move(self.at + 1)

    def book_change(self, call):
        """The news of a change of the book, or the error with which it is refused."""
        try:
            book = call(Book.from_lines(*self.now()[0]))
        except (LinkError, KeyError) as error:
            return error
        for pledge in self.now()[1]:
            if not holds(book, pledge):
                return Refused(pledge)
        return self.change(book.lines, self.now()[1])

    def demand(self, pledge):
        lines, pledges = self.now()
        if pledge in pledges:
            return InvalidOperation("")
        if len(pledges) >= 10:
            return TooMany(10)
        return self.change(lines, (*pledges, pledge)) if holds(Book.from_lines(*lines), pledge) else Refused(pledge)

    def waive(self, pledge):
        lines, pledges = self.now()
        return self.change(lines, tuple(each for each in pledges if each != pledge)) if pledge in pledges else InvalidOperation("")

    def go(self, many):
        return self.move(self.at + many) if 0 <= self.at + many < len(self.layouts) else NothingToUndo(abs(many))


class BenchCase(Case):
    def agree(self, bench, record):
        """A bench is as the record tells, and as a fresh one of the same lines."""
        lines, pledges = record.now()
        self.same([bench.book.lines, bench.pledges, tuple(bench), len(bench)], [lines, pledges, lines, len(lines)])
        self.same(str(bench), f"bench with {len(lines)} lines, {len(pledges)} pledges")
        self.same([LINE in bench, *[pledge in bench for pledge in PLEDGES]], [LINE in lines, *[pledge in pledges for pledge in PLEDGES]])

    def answered(self, call, wanted):
        """A call returns the news, or is refused with this error, which keeps the same."""
        if isinstance(wanted, tuple):
            self.same(call(), wanted)
            return
        error = self.refused(type(wanted), call)
        self.same(vars(error), vars(wanted))

    def one_deed(self, chance, bench, record):
        """A change by chance, on a bench and in its record; what it was."""
        kind = chance.choice(("draw", "draw", "erase", "demand", "demand", "waive", "undo", "undo", "redo"))
        if kind in ("draw", "erase"):
            line = chance.choice([drawn_page(chance, bench.book.kinds, "mn"), *bench.book.lines, LINE, OTHER_LINE, f"start {chance.choice(DEEDS)} {chance.choice('mn')}", "read o a+a o", "fly"])
            wanted = record.book_change(lambda book: book.with_line(line) if kind == "draw" else book.without(line))
            self.answered(lambda: getattr(bench, kind)(line), wanted)
        elif kind in ("demand", "waive"):
            pledge = chance.choice(PLEDGES if kind == "demand" or not bench.pledges or chance.randrange(4) == 0 else bench.pledges)
            self.answered(lambda: getattr(bench, kind)(pledge), getattr(record, kind)(pledge))
            wanted = ()
        else:
            many = chance.choice((1, 1, 1, 2, 3, 0))
            wanted = record.go(-many if kind == "undo" else many)
            self.answered(lambda: getattr(bench, kind)(many=many) if many != 1 else getattr(bench, kind)(), wanted)
        self.agree(bench, record)
        return kind, isinstance(wanted, tuple)


class InterfaceTest(Case):
    def test_names(self):
        self.same(module.MAX_PLEDGES, 10)
        self.defined_in(module, "Bench")
        self.signature(Bench, "(book)")
        methods = {"draw": ["line"], "erase": ["line"], "demand": ["pledge"], "waive": ["pledge"], "undo": ["*, many=1"], "redo": ["*, many=1"], "trial": [], "during": ["call"], "twin": []}
        self.methods_of(Bench, {name: methods[name] for name in methods if name not in ("undo", "redo")}, ("book", "pledges"))
        for name in ("undo", "redo"):
            self.signature(vars(Bench)[name], "(self, *, many=1)")
        for name in ("__init__", "__contains__", "__len__", "__iter__", "__eq__", "__str__"):
            self.assertIn(name, vars(Bench))

    def test_examples(self):
        bench = Bench(BINOMIAL)
        self.same([bench.demand(("good", "put")), bench.erase(LINE), bench.undo(), bench.redo(), str(bench)],
                  [(), (("meld", False), ("take", False)), (("meld", True), ("take", True)), (("meld", False), ("take", False)), "bench with 14 lines, 1 pledges"])
        self.refused_with(Refused, "pledge", ("good", "put"), bench.erase, OTHER_LINE)
        self.same([bench.during(lambda same: same.draw(LINE)), LINE in bench, ("good", "put") in bench], [(("meld", True), ("take", True)), False, True])


class HistoryTest(BenchCase):
    def test_histories(self):
        counts = {}
        for seed, book in enumerate((BINOMIAL, LESS, HYPER, GUIDED, FULL, TERNARY)):
            chance = random.Random(seed)
            bench, record = Bench(book), Record(book)
            self.agree(bench, record)
            for _ in range(70):
                told = self.one_deed(chance, bench, record)
                counts[told] = counts.get(told, 0) + 1
        for kind in ("draw", "erase", "undo", "redo"):
            self.assertGreater(min(counts[kind, True], counts[kind, False]), 3, counts)

    def test_blocks(self):
        chance = random.Random(90)
        for book in (BINOMIAL, HYPER):
            bench, record = Bench(book), Record(book)
            for step in range(12):
                self.one_deed(chance, bench, record)
                inner = self.copied(record)
                with bench.trial() as same:
                    self.same(same is bench, True)
                    for _ in range(6):
                        self.one_deed(chance, bench, inner)
                self.agree(bench, record)
                with self.assertRaises(ZeroDivisionError):
                    with bench.trial():
                        self.one_deed(chance, bench, self.copied(record))
                        raise ZeroDivisionError
                self.agree(bench, record)
                while record.at and step == 11:
                    self.answered(bench.undo, record.go(-1))
                    self.agree(bench, record)

    def copied(self, record):
        other = Record(BINOMIAL)
        other.layouts, other.at = list(record.layouts), record.at
        return other

    def test_twins(self):
        chance = random.Random(91)
        bench, record = Bench(BINOMIAL), Record(BINOMIAL)
        for _ in range(25):
            self.one_deed(chance, bench, record)
        twin, other = bench.twin(), self.copied(record)
        self.same([twin == bench, type(twin)], [True, Bench])
        for _ in range(25):
            self.one_deed(chance, twin, other)
            self.agree(bench, record)
            self.one_deed(chance, bench, record)
            self.agree(twin, other)

    def test_beside_fresh_books(self):
        bench = Bench(BINOMIAL)
        for call in (lambda: bench.erase(LINE), lambda: bench.draw("read o a+a o"), lambda: bench.draw("start put n"), lambda: bench.draw("page n a+a to a then m"), bench.undo, lambda: bench.draw("ends o z"),
                     lambda: bench.undo(many=2)):
            try:
                call()
            except LinkError:
                pass
            fresh = Bench(Book.from_lines(*bench.book.lines))
            self.same([fresh == bench, tuple(fresh), fresh.book == bench.book], [True, tuple(bench), True])


class ChangeTest(BenchCase):
    def test_news(self):
        bench = Bench(LESS)
        self.same([bench.draw(LINE), bench.draw(LINE), bench.erase(OTHER_LINE)], [(("meld", True), ("take", True)), (), (("put", False), ("meld", False), ("take", False))])
        self.same([bench.undo(many=3), bench.redo(many=3), bench.undo(many=0), bench.redo(many=0), bench.undo(many=2)],
                  [(("put", True),), (("put", False),), (), (), (("put", True), ("meld", True), ("take", True))])

    def test_changes_that_leave_all_as_it_is(self):
        bench = Bench(BINOMIAL)
        self.same([bench.draw(LINE), bench.draw(LINE), bench.undo(), bench.undo()], [()] * 4)
        self.refused_with(NothingToUndo, "many", 1, bench.undo)
        self.same([bench.redo(many=2), bench.book == BINOMIAL], [(), True])
        # A change after one that was taken back: nothing can be done again.
        self.same([bench.undo(), bench.draw(LINE)], [(), ()])
        self.refused_with(NothingToUndo, "many", 1, bench.redo)

    def test_pledges_are_changes(self):
        bench = Bench(BINOMIAL)
        self.same([bench.demand(("good", "put")), bench.demand(("good", "meld")), bench.waive(("good", "put")), bench.pledges],
                  [(), (), (), (("good", "meld"),)])
        self.same([bench.undo(), bench.pledges, bench.undo(many=2), bench.pledges, bench.redo(many=3), bench.pledges],
                  [(), (("good", "put"), ("good", "meld")), (), (), (), (("good", "meld"),)])
        self.same([bench.undo(many=2), bench.waive(("good", "put")), bench.pledges], [(), (), ()])
        self.refused(NothingToUndo, bench.redo)

    def test_order_of_pledges(self):
        bench = Bench(BINOMIAL)
        for pledge in (("good", "take"), ("done", (A, A), ("meld", (A, A))), ("good", "meld"), ("good", "put")):
            bench.demand(pledge)
        self.refused_with(Refused, "pledge", ("good", "take"), bench.erase, LINE)
        bench.waive(("good", "take"))
        self.refused_with(Refused, "pledge", ("done", (A, A), ("meld", (A, A))), bench.erase, LINE)
        bench.demand(("good", "take"))
        self.same(bench.pledges, (("done", (A, A), ("meld", (A, A))), ("good", "meld"), ("good", "put"), ("good", "take")))
        bench.waive(("done", (A, A), ("meld", (A, A))))
        self.refused_with(Refused, "pledge", ("good", "meld"), bench.erase, LINE)
        bench.waive(("good", "meld"))
        self.refused_with(Refused, "pledge", ("good", "take"), bench.erase, LINE)
        self.refused_with(Refused, "pledge", ("good", "put"), bench.erase, OTHER_LINE)
        self.same(bench.book == BINOMIAL, True)

    def test_each_pledge_holds_or_is_refused(self):
        for book in (BINOMIAL, LESS, GUIDED, HYPER, counting(3)):
            for pledge in PLEDGES:
                bench = Bench(book)
                self.same(pledge in bench, False)
                if holds(book, pledge):
                    self.same([bench.demand(pledge), bench.pledges, pledge in bench], [(), (pledge,), True])
                    self.refused(InvalidOperation, bench.demand, pledge)
                    self.same([bench.waive(pledge), pledge in bench], [(), False])
                else:
                    self.refused_with(Refused, "pledge", pledge, bench.demand, pledge)
                    self.refused(NothingToUndo, bench.undo)
                self.refused(InvalidOperation, bench.waive, pledge)

    def test_ten_pledges(self):
        bench = Bench(BINOMIAL)
        pledges = [("done", (A,) * many, ("put",)) for many in range(10)]
        for pledge in pledges:
            bench.demand(pledge)
        self.refused_with(TooMany, "limit", 10, bench.demand, ("good", "put"))
        self.refused_with(TooMany, "limit", 10, bench.demand, ("links", "put", 0))
        self.refused(InvalidOperation, bench.demand, pledges[3])
        self.refused(InvalidOperation, bench.demand, ("good", "puts"))
        self.same([bench.pledges, bench.waive(pledges[4]), bench.demand(("good", "put")), len(bench.pledges)], [tuple(pledges), (), (), 10])

    def test_true_is_not_1(self):
        bench = Bench(GUIDED)
        bench.demand(("links", "put", 1))
        wide = Bench(BINOMIAL)
        wide.demand(("done", ((), A), ("take", 1, A * 2)))
        self.same([("links", "put", 1) in bench, ("links", "put", True) in bench, ("done", ((), A), ("take", True, A * 2)) in wide], [True, False, False])
        self.refused(InvalidOperation, bench.waive, ("links", "put", True))
        self.refused(InvalidOperation, bench.demand, ("links", "put", True))
        self.refused(InvalidOperation, wide.waive, ("done", ((), A), ("take", True, A * 2)))
        self.same(bench.pledges, (("links", "put", 1),))


class RefusedTest(BenchCase):
    def test_lines(self):
        for bench in (Bench(BINOMIAL), Bench(BINOMIAL)):
            bench.draw(LINE)
            record = Record(BINOMIAL)
            record.change(BINOMIAL.lines, ())
            for value in (*STRANGE, "page", "leaf b", "kind b a+a", "first z", "lines", "page m a+a to a then m ", ("ends o",)):
                self.refused_with(ParseError, "number", None, bench.draw, value)
            for value in (*STRANGE, "leaf a", "ends o", "start put m", "page m a to 0 then m", "first s"):
                with self.assertRaises(UnknownName) as caught:
                    bench.erase(value)
                self.assertIs(caught.exception.word, value)
            self.refused(InvalidPage, bench.draw, "page m b to 0 then m")
            self.refused(InvalidReader, bench.draw, "read z 0 o")
            self.refused(InvalidReader, bench.draw, "ends s")
            self.refused(InvalidBook, bench.draw, "read z b o")
            self.agree(bench, record)
            self.same([bench.undo(), bench.redo()], [(), ()])

    def test_pledges(self):
        bench = Bench(BINOMIAL)
        bench.demand(("good", "put"))
        for value in NO_PLEDGES:
            self.refused(InvalidOperation, bench.demand, value)
            self.refused(InvalidOperation, bench.waive, value)
            self.same(value in bench, value in BINOMIAL.lines if isinstance(value, str) else False)
        self.same([bench.pledges, bench.undo(), bench.pledges], [(("good", "put"),), (), ()])

    def test_numbers(self):
        bench = Bench(BINOMIAL)
        bench.draw(LINE)
        bench.erase(LINE)
        bench.undo()
        for call in (bench.undo, bench.redo):
            for value in NO_COUNTS:
                with self.assertRaises(InvalidNumber) as caught:
                    call(many=value)
                self.assertIs(caught.exception.value, value)
            for value in (2, 3, 10 ** 59):
                self.refused_with(NothingToUndo, "many", value, call, many=value)
        self.same([bench.redo(), bench.undo(many=2), bench.book == BINOMIAL], [(("meld", False), ("take", False)), (("meld", True), ("take", True)), True])

    def test_too_many_stands(self):
        self.refused_with(TooMany, "limit", 20000, Bench, TOO_GREAT_BOOK)
        # A book that is great grows too great by a line.
        lines = [line for line in TOO_GREAT_BOOK.lines if line not in ("start meld naa",)]
        small = Book.from_lines(*lines, "start meld zz")
        bench = Bench(small)
        bench.demand(("done", (), ("meld", ())))
        self.refused_with(TooMany, "limit", 20000, bench.draw, "start meld naa")
        self.same([bench.book == small, bench.pledges, bench.undo()], [True, (("done", (), ("meld", ())),), ()])
        self.refused(NothingToUndo, bench.undo)

    def test_too_many_stands_come_ahead_of_a_refusal(self):
        small = TOO_GREAT_BOOK.with_line("start meld zz")
        bench, pledge = Bench(small), ("done", (), ("meld", ()))
        bench.demand(pledge)
        bench.demand(("alike", "(A+B)", "(B+A)"))
        self.refused_with(TooMany, "limit", 20000, bench.draw, "start meld naa")
        self.refused_with(Refused, "pledge", ("alike", "(A+A)", "A'"), bench.demand, ("alike", "(A+A)", "A'"))
        self.same(bench.pledges, (pledge, ("alike", "(A+B)", "(B+A)")))

    def test_the_error_of_deciding_a_pledge(self):
        bench = Bench(GREAT_BOOK)
        hard = ("alike", "(((A+B)+C)+A)", "((A'+B')+C)")
        self.refused_with(TooMany, "limit", 20000, bench.demand, hard)
        self.same([bench.pledges, hard in bench], [(), False])
        self.refused(NothingToUndo, bench.undo)
        # The first pledge that would not hold, or that cannot be decided, whichever comes first.
        easy, line = GREAT_BOOK.with_line("start put zz").with_line("start meld zz"), "start put naa"
        for pledges in ((("alike", "(A'+B)", "(B+A')"), ("links", "put", 0)), (("links", "put", 0), ("alike", "(A'+B)", "(B+A')"))):
            bench = Bench(easy)
            for pledge in pledges:
                bench.demand(pledge)
            if pledges[0][0] == "alike":
                self.refused_with(TooMany, "limit", 20000, bench.draw, line)
            else:
                self.refused_with(Refused, "pledge", pledges[0], bench.draw, line)
            self.same([bench.book == easy, bench.pledges], [True, pledges])

    def test_no_book(self):
        for value in STRANGE:
            if not isinstance(value, Book):
                self.refused(InvalidBook, Bench, value)
        self.refused(InvalidBook, Bench, BINOMIAL.lines)
        self.assertTrue(issubclass(InvalidKinds, LinkError))


class BlockTest(BenchCase):
    def test_behind_errors(self):
        bench = Bench(BINOMIAL)
        bench.draw("page m a to 0 then m")
        bench.undo()
        with self.assertRaises(Refused):
            with bench.trial() as same:
                same.demand(("good", "put"))
                same.erase(OTHER_LINE)
        self.same([bench.pledges, bench.book == BINOMIAL, bench.redo(), len(bench)], [(), True, (), 16])
        with self.assertRaises(NothingToUndo):
            bench.during(lambda same: same.undo(many=5))
        self.same(len(bench), 16)

    def test_blocks_in_blocks(self):
        bench = Bench(BINOMIAL)
        with bench.trial() as one:
            one.erase(LINE)
            with one.trial() as other:
                other.erase(OTHER_LINE)
                self.same([len(bench), other is one], [13, True])
            self.same([len(bench), bench.undo(), len(bench)], [14, (("meld", True), ("take", True)), 15])
        self.same(len(bench), 15)

    def test_one_block_entered_twice(self):
        bench = Bench(BINOMIAL)
        block = bench.trial()
        with block:
            bench.erase(LINE)
            with block as same:
                same.erase(OTHER_LINE)
            self.same(len(bench), 14)
        self.same(len(bench), 15)
        bench.erase(LINE)
        with block:
            bench.draw(LINE)
        self.same([len(bench), bench.undo(), len(bench)], [14, (("meld", True), ("take", True)), 15])

    def test_a_block_is_as_before_where_it_begins(self):
        bench = Bench(BINOMIAL)
        block = bench.trial()
        bench.erase(LINE)
        with block:
            bench.undo()
        self.same(len(bench), 14)

    def test_during(self):
        bench = Bench(BINOMIAL)
        self.same([bench.during(lambda same: (same is bench, same.erase(LINE), len(same))), len(bench)], [(True, (("meld", False), ("take", False)), 14), 15])
        self.same([bench.during(lambda same: None), bench.during(len), bench.during(lambda same: same.during(lambda inner: inner.book)) == BINOMIAL], [None, 15, True])
        self.refused(NothingToUndo, bench.undo)

    def test_twin_in_a_block(self):
        bench = Bench(BINOMIAL)
        with bench.trial() as same:
            same.erase(LINE)
            twin = same.twin()
        self.same([len(twin), len(bench), twin.undo(), twin == bench], [14, 15, (("meld", True), ("take", True)), True])


class SignsTest(Case):
    def test_equal(self):
        one, other = Bench(BINOMIAL), Bench(Book.from_lines(*BINOMIAL.lines))
        self.same([one == other, one != other], [True, False])
        one.demand(("good", "put"))
        self.same([one == other, one != other], [False, True])
        other.demand(("good", "meld"))
        other.demand(("good", "put"))
        self.same(one == other, False)
        other.waive(("good", "meld"))
        # What was done on the way does not matter.
        self.same([one == other, Bench(BINOMIAL) == Bench(LESS)], [True, False])
        one.erase(LINE)
        other.erase(LINE)
        self.same([one == other, one == one.twin()], [True, True])
        for value in (*STRANGE, BINOMIAL, BINOMIAL.lines, str(one)):
            self.same([one == value, one != value, value == one], [False, True, False])

    def test_what_is_in_it(self):
        bench = Bench(BINOMIAL)
        bench.demand(("done", (A,), ("put",)))
        for line in BINOMIAL.lines:
            self.same(line in bench, True)
        for value in (*[value for value in STRANGE if value != "leaf a"], "page m a+a to a then m ", ("put",), BINOMIAL, ("done", (A,), ("put",), ()), ["done", (A,), ("put",)], ("done", (A,))):
            self.same(value in bench, False)
        self.same([("done", (A,), ("put",)) in bench, list(bench), list(bench)], [True, list(BINOMIAL.lines), list(BINOMIAL.lines)])

    def test_nothing_is_shared(self):
        bench = Bench(BINOMIAL)
        pledges, book, lines = bench.pledges, bench.book, iter(bench)
        next(lines)
        bench.demand(("good", "put"))
        bench.erase(LINE)
        self.same([pledges, book == BINOMIAL, list(lines), BINOMIAL.lines[-1], read_row("a")], [(), True, list(BINOMIAL.lines[1:]), LINE, (A,)])
