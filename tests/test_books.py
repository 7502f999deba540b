"""Books: [0.2], [0.4], [0.5], [0.10], [4.1] and stage 7."""

import itertools
import random

import linkbooks.book.books as module
from linkbooks.base.kinds import Kinds
from linkbooks.base.ranks import Ranks
from linkbooks.base.rows import read_row
from linkbooks.book.books import Book, renamed_book
from linkbooks.book.pages import Machine, Page
from linkbooks.errors import (
    InvalidBook, InvalidKinds, InvalidOperation, InvalidPage, InvalidReader, ParseError, UnknownName,
)
from linkbooks.read.readers import Reader
from tests.helper import (
    BINOMIAL, BINOMIAL_LINES, GUIDED, GUIDED_LINES, STRANGE, ZZ, ZZ_BOOK, ZZ_MACHINE, ZZ_READER, Case,
)
from tests.test_readers import taken
from tests.test_rows import kinds_by_rank, row_of

A, AA = ("a",), ("a", "a")
STARTS = {"put": "m", "meld": "m", "take": "m"}
# Two kinds, each of which exists at every other rank, and a reader that does not ask for the rank.
ODD_LINES = ("leaf a", "kind a b+b", "kind b a+a+a", "first s", "ends o", "read s a o", "read s b o", "read s 0 z",
             "read o a o", "read o b o", "read o 0 z", "read z a o", "read z b o", "read z 0 z", "read s a+b o",
             "start put m", "start meld n", "start take t", "page m a+a+a to b then m", "page n b+b to a then n")


def odd():
    return Book.from_lines(*ODD_LINES)


class InterfaceTest(Case):
    def test_constant(self):
        self.same(module.DEEDS, ("put", "meld", "take"))

    def test_class_defines_all(self):
        self.defined_in(module, "Book", "renamed_book")
        methods = {"from_lines": ["*lines"], "is_right": ["value"], "with_line": ["line"], "without": ["line"]}
        self.methods_of(Book, methods, ("kinds", "reader", "machine", "starts", "ranks", "lines", "size"))
        self.assertIsInstance(vars(Book)["from_lines"], classmethod)
        for name in ("__init__", "__contains__", "__len__", "__iter__", "__eq__", "__str__"):
            self.assertIn(name, vars(Book))
        self.signature(Book, "(kinds, reader, machine, starts)")
        self.signature(renamed_book, "(book, *, kinds=None, states=None, notes=None)")

    def test_examples(self):
        found = [str(BINOMIAL), BINOMIAL.is_right(read_row("a 0 a")), BINOMIAL.is_right(read_row("a+a")),
                 GUIDED.is_right(read_row("0 a a+a"))]
        self.same(found, ["book of 1 kinds, 3 states, 2 pages", True, False, True])
        less = BINOMIAL.without("page m a+a+a to a then m")
        self.same([less.machine.pages[0].pool, renamed_book(BINOMIAL, kinds={"a": "t"}).lines[1]], [AA, "kind t t+t"])


class CreationTest(Case):
    def made(self, kinds=BINOMIAL.kinds, reader=BINOMIAL.reader, machine=BINOMIAL.machine, starts=STARTS):
        return Book(kinds, reader, machine, starts)

    def test_all_that_it_tells(self):
        book = self.made()
        self.same([book.kinds == BINOMIAL.kinds, book.reader == BINOMIAL.reader, book.machine == BINOMIAL.machine], [True] * 3)
        self.same([book.starts, book.ranks == Ranks(BINOMIAL.kinds), book.size, len(book)], [STARTS, True, 8, 15])
        self.same([isinstance(book.ranks, Ranks), book.lines, str(book)], [True, BINOMIAL.lines, str(BINOMIAL)])
        self.same([GUIDED.size, len(GUIDED), odd().size, len(odd())], [16, 23, 12, 20])

    def test_starts_in_their_order(self):
        book = self.made(starts={"take": "c", "put": "a", "meld": "b"})
        self.same(list(book.starts.items()), [("put", "a"), ("meld", "b"), ("take", "c")])
        self.same([line for line in book.lines if line.startswith("start")], ["start put a", "start meld b", "start take c"])

    def test_wrong_values(self):
        for value in STRANGE:
            if not isinstance(value, Kinds):
                self.refused(InvalidKinds, self.made, kinds=value)
            if not isinstance(value, Reader):
                self.refused(InvalidReader, self.made, reader=value)
            if not isinstance(value, Machine):
                self.refused(InvalidPage, self.made, machine=value)
            self.refused(InvalidOperation, self.made, starts=value)
            self.refused(InvalidOperation, self.made, starts={"put": "m", "meld": "m", "take": value})
            self.refused(InvalidOperation, self.made, starts={"put": value, "meld": "m", "take": "m"})

    def test_starts_that_are_none(self):
        for starts in ({"put": "m", "meld": "m"}, {"put": "m", "meld": "m", "take": "m", "get": "m"}, {"put": "m", "meld": "m", "get": "m"},
                       {"put": "m", "meld": "m", "take": "m", None: "m"}, {"put": "m", "meld": "m", ("take",): "m"},
                       [("put", "m"), ("meld", "m"), ("take", "m")], ("m", "m", "m"), ("put", "meld", "take"), "m"):
            self.refused(InvalidOperation, self.made, starts=starts)

    def test_kinds_that_differ(self):
        wider = Kinds("a", {"a": AA, "b": AA})
        self.refused(InvalidBook, self.made, kinds=wider)
        self.refused(InvalidBook, self.made, machine=Machine(wider, ()))
        self.refused(InvalidBook, self.made, machine=ZZ_MACHINE)
        self.refused(InvalidBook, self.made, kinds=Kinds("a", {}))
        self.same(str(self.made(kinds=wider, machine=Machine(wider, ()))), "book of 2 kinds, 3 states, 0 pages")

    def test_kinds_of_the_reader(self):
        for digit in (("b",), ("a", "b"), ("a", "a", "zz")):
            reader = Reader("s", ("o",), {("s", A): "o", ("o", digit): "o"})
            self.refused(InvalidBook, self.made, reader=reader)
        self.refused(InvalidBook, self.made, reader=ZZ_READER)
        # A reader without lines, and one with a kind that exists nowhere, are well.
        self.same(len(self.made(reader=Reader("s", ("o",), {}))), 9)
        none = Kinds("a", {"b": ("b", "b")})
        self.same(len(Book(none, Reader("s", ("o",), {("s", ("b",)): "o"}), Machine(none, ()), STARTS)), 8)

    def test_errors_in_their_order(self):
        self.refused(InvalidKinds, Book, None, None, None, None)
        self.refused(InvalidReader, Book, ZZ, None, None, None)
        self.refused(InvalidPage, Book, ZZ, BINOMIAL.reader, None, None)
        self.refused(InvalidOperation, Book, ZZ, BINOMIAL.reader, BINOMIAL.machine, None)
        self.refused(InvalidBook, Book, ZZ, BINOMIAL.reader, BINOMIAL.machine, STARTS)
        self.refused(InvalidReader, Book, ZZ, BINOMIAL.machine, BINOMIAL.reader, STARTS)
        self.refused(InvalidPage, Book, ZZ, ZZ_READER, ZZ_READER, {})

    def test_nothing_is_shared(self):
        starts = dict(STARTS)
        book = self.made(starts=starts)
        starts["put"] = "x"
        del starts["take"]
        book.starts["meld"] = "x"
        book.starts.clear()
        book.reader.reads.clear()
        book.kinds.makings.clear()
        self.same([book.starts, book.lines], [STARTS, BINOMIAL.lines])


class LinesTest(Case):
    def test_there_and_back(self):
        for book in (BINOMIAL, GUIDED, odd(), ZZ_BOOK):
            self.assertEqual(Book.from_lines(*book.lines), book)
            self.assertEqual(Book(book.kinds, book.reader, book.machine, book.starts), book)

    def test_order_of_the_lines(self):
        book = odd()
        pages = tuple(page.line for page in book.machine.pages)
        starts = ("start put m", "start meld n", "start take t")
        self.same(book.lines, (*book.kinds.lines, *book.reader.lines, *starts, *pages))
        self.same(pages, ("page m a+a+a to b then m", "page n b+b to a then n"))
        self.same(sorted(BINOMIAL.lines), sorted(BINOMIAL_LINES))
        self.same(sorted(GUIDED.lines), sorted(GUIDED_LINES))

    def test_in_any_order(self):
        chance = random.Random(2)
        for book in (BINOMIAL, GUIDED, odd()):
            for _ in range(30):
                self.same(Book.from_lines(*chance.sample(book.lines, len(book))).lines, book.lines)

    def test_values_that_are_no_line(self):
        lines = ("", "start", "start put", "start put m n", "start get m", "start put M", "start put 0", "start  put m",
                 " start put m", "start put m ", "Start put m", "start meld+put m", "starts put m", "kind b", "leaf", "ends",
                 "first", "read s a", "page m a to a", "read s b+a o", "page m b+a to a then m", "kind b a", "kind b a+a+a+a")
        for line in (*lines, *STRANGE, BINOMIAL.lines, ["leaf a"], None):
            if line != "leaf a":
                for at in (0, 7, 15):
                    lines = (*BINOMIAL.lines[:at], line, *BINOMIAL.lines[at:])
                    self.refused_with(ParseError, "number", at, Book.from_lines, *lines)
                self.refused_with(ParseError, "number", 0, Book.from_lines, line)

    def test_each_line_left_out_or_doubled(self):
        for book in (BINOMIAL, GUIDED, odd()):
            for at, line in enumerate(book.lines):
                self.refused_with(ParseError, "number", len(book), Book.from_lines, *book.lines, line)
                self.refused_with(ParseError, "number", at + 1, Book.from_lines, *book.lines[:at + 1], line, *book.lines[at + 1:])
                others = book.lines[:at] + book.lines[at + 1:]
                error = {"leaf": InvalidKinds, "kind": InvalidPage, "first": InvalidReader, "ends": InvalidReader, "start": InvalidBook}
                if line == "kind a b+b" or line == "kind b a+a+a":
                    self.refused(InvalidKinds if line[5] == "b" else InvalidPage, Book.from_lines, *others)
                elif line.split(" ")[0] in error:
                    self.refused(error[line.split(" ")[0]], Book.from_lines, *others)
                else:
                    self.same(Book.from_lines(*others).lines, others)

    def test_second_lines_of_one_place(self):
        for line in ("leaf b", "kind a a+a+a", "first t", "ends n o", "read s a z", "start put x", "start take x", "page m a+a to 0 then x"):
            self.refused_with(ParseError, "number", 15, Book.from_lines, *BINOMIAL.lines, line)
            self.refused_with(ParseError, "number", 16, Book.from_lines, *BINOMIAL.lines, "page x a to 0 then m", line)

    def test_errors_in_their_order(self):
        wrong_kinds, wrong_reader = ("leaf a", "kind b c+c"), ("first s", "ends s")
        wrong_page, wrong_start = ("page m a to a then m",), ("start put m",)
        right_kinds, right_reader = ("leaf a", "kind a a+a"), ("first s", "ends o")
        self.refused_with(ParseError, "number", 6, Book.from_lines, *wrong_kinds, *wrong_reader, *wrong_page, *wrong_start, "x")
        self.refused(InvalidKinds, Book.from_lines, *wrong_kinds, *wrong_reader, *wrong_page, *wrong_start)
        self.refused(InvalidReader, Book.from_lines, *right_kinds, *wrong_reader, *wrong_page, *wrong_start)
        self.refused(InvalidPage, Book.from_lines, *right_kinds, *right_reader, *wrong_page, *wrong_start)
        self.refused(InvalidBook, Book.from_lines, *right_kinds, *right_reader, *wrong_start)
        self.refused(InvalidKinds, Book.from_lines)

    def test_kinds_that_are_none(self):
        self.refused(InvalidBook, Book.from_lines, *BINOMIAL.lines, "read s b o")
        self.refused(InvalidPage, Book.from_lines, *BINOMIAL.lines, "page m a+a+b to a then m")
        self.refused(InvalidPage, Book.from_lines, *BINOMIAL.lines, "page m a+a+a+a to b then m")
        self.refused(InvalidPage, Book.from_lines, *BINOMIAL.lines, "read s b o", "page m b to 0 then m")

    def test_too_many_pages_and_reads(self):
        notes = [one + other for one, other in itertools.product("abcdefghij", repeat=2)]
        pages = [f"page {note} a to 0 then m" for note in notes]
        self.same(len(Book.from_lines(*BINOMIAL.lines, *pages[:78]).machine), 80)
        self.refused(InvalidPage, Book.from_lines, *BINOMIAL.lines, *pages[:79])
        states = ["read p 0 z", "read q 0 z", "read r 0 z"]
        reads = [f"read {state} {digit} o" for state, digit in itertools.product("sozpqr", ("a", "a+a", "a+a+a"))]
        reads = [line for line in (*reads, *states) if line not in BINOMIAL.lines]
        more = Kinds("a", {"a": AA, "b": AA}).lines
        others = [f"read {state} {digit} o" for state, digit in itertools.product("sozpqr", ("b", "b+b", "a+b"))]
        lines = [*more, *[line for line in BINOMIAL.lines if line not in more], *reads, *others]
        known = [line for line in lines if line.startswith("read")]
        rest = [line for line in lines if not line.startswith("read")]
        self.same(len(Book.from_lines(*rest, *known[:39]).reader.reads), 39)
        self.refused(InvalidReader, Book.from_lines, *rest, *known, *[f"read {state} a+a+b o" for state in "sozpqr"])


class RightTest(Case):
    def test_against_lines_and_ranks(self):
        for book, digits in ((BINOMIAL, ((), A, AA)), (GUIDED, ((), A, AA)), (odd(), ((), A, ("b",), ("a", "b"), AA))):
            by_rank = kinds_by_rank(book.kinds, 6)
            for many in range(6):
                for row in itertools.product(digits, repeat=many):
                    exist = all(name in here for digit, here in zip(row, by_rank) for name in digit)
                    wanted = exist and row[-1:] != ((),) and taken(book.reader, row)
                    self.same(book.is_right(row), wanted)

    def test_kinds_that_do_not_exist_at_a_rank(self):
        book = odd()
        self.same([book.reader.takes((A, A)), book.is_right((A, A)), book.is_right((A, ("b",)))], [True, False, True])
        self.same([book.reader.takes((("b",),)), book.is_right((("b",),)), book.is_right((("a", "b"),))], [True, False, False])
        self.same([book.is_right(row_of(399)), book.is_right(row_of(399, ("b",)))], [True, False])

    def test_400_and_401_ranks(self):
        for ranks in (1, 399, 400, 401, 402, 403):
            self.same([BINOMIAL.is_right(row_of(ranks)), BINOMIAL.is_right((A,) * ranks)], [ranks <= 400] * 2)
        self.same([odd().is_right(row_of(400, ("b",))), odd().is_right(row_of(401))], [True, False])

    def test_every_value_is_judged(self):
        for book in (BINOMIAL, odd(), ZZ_BOOK):
            for value in (*STRANGE, [A], A, (A, ()), (A, None), "a", ["a"], (["a"],), ((),), {0: A}):
                self.same(book.is_right(value), isinstance(value, tuple) and value == ())
        self.same([BINOMIAL.is_right((A,)), BINOMIAL.is_right([A]), BINOMIAL.is_right((["a"],))], [True, False, False])


class ChangesTest(Case):
    def test_one_more_line(self):
        for line in ("read s a+a o", "read x 0 o", "page m a to 0 then x", "page q a+a to a then m", "page m 0 to 0 then m",
                     "read o a+a+a z"):
            if line == "read x 0 o":
                self.refused(InvalidReader, BINOMIAL.with_line, line)
                continue
            book = BINOMIAL.with_line(line)
            self.same(sorted(book.lines), sorted((*BINOMIAL.lines, line)))
            self.assertEqual(book.without(line), BINOMIAL)

    def test_another_line(self):
        for line, old in (("read s a z", "read s a o"), ("read o 0 y", "read o 0 z"), ("ends o y", "ends o"), ("ends p", "ends o"),
                          ("start put x", "start put m"), ("start meld x", "start meld m"), ("start take x", "start take m"),
                          ("page m a+a to 0 then q", "page m a+a to a then m"), ("page m a+a+a to a then x", "page m a+a+a to a then m")):
            book = BINOMIAL.with_line(line)
            self.same(sorted(book.lines), sorted([line, *[other for other in BINOMIAL.lines if other != old]]))
            self.same([line in book, old in book, len(book)], [True, False, 15])

    def test_a_line_that_is_there(self):
        for line in BINOMIAL.lines:
            if line.split(" ")[0] in ("read", "page", "ends", "start"):
                self.assertEqual(BINOMIAL.with_line(line), BINOMIAL)
            else:
                self.refused_with(ParseError, "number", None, BINOMIAL.with_line, line)

    def test_lines_that_cannot_be_put_in(self):
        for line in ("leaf a", "leaf b", "kind a a+a", "kind b a+a", "first s", "first t", "what", "", "read s b+a o", "read s a",
                     "page m a to a", "ends", "ends o o", "start put", "start get m", "read s a o ", *STRANGE, BINOMIAL.lines, ["read s a o"]):
            self.refused_with(ParseError, "number", None, BINOMIAL.with_line, line)

    def test_errors_of_the_new_book(self):
        for line, error in (
            ("read s a s", InvalidReader), ("read s 0 o", InvalidReader), ("ends s", InvalidReader), ("ends o z", InvalidReader),
            ("ends a b c d", InvalidReader), ("page m a to a then m", InvalidPage), ("page m a+b to 0 then m", InvalidPage),
            ("page m a+a to b then m", InvalidPage), ("page m a+a to a+a then m", InvalidPage), ("read s b o", InvalidBook),
            ("read s a+zz o", InvalidBook),
        ):
            self.refused(error, BINOMIAL.with_line, line)
        self.same(sorted(BINOMIAL.lines), sorted(BINOMIAL_LINES))

    def test_without(self):
        for book in (BINOMIAL, GUIDED, odd()):
            for line in book.lines:
                if line.split(" ")[0] in ("read", "page"):
                    less = book.without(line)
                    self.same(less.lines, tuple(other for other in book.lines if other != line))
                    self.assertEqual(less.with_line(line), book)
                    self.refused_with(UnknownName, "word", line, less.without, line)
                else:
                    self.refused_with(UnknownName, "word", line, book.without, line)

    def test_without_what_it_does_not_have(self):
        for line in ("read s a z", "read x a o", "page m a+a to 0 then m", "page n a+a to a then m", "read s a", "read", "page",
                     "what", "read s a o ", *STRANGE, BINOMIAL.lines, ["read s a o"], ("read s a o",)):
            with self.assertRaises(UnknownName) as caught:
                BINOMIAL.without(line)
            self.assertIs(caught.exception.word, line)

    def test_the_book_ahead_stays_as_it_was(self):
        book = Book.from_lines(*BINOMIAL_LINES)
        book.with_line("read s a+a o")
        book.with_line("start put x")
        book.without("read s a o")
        renamed_book(book, kinds={"a": "b"})
        self.same([book.lines, book.is_right((A,)), book.starts], [BINOMIAL.lines, True, STARTS])
        self.assertEqual(book, BINOMIAL)

    def test_a_chain_of_changes(self):
        book = BINOMIAL
        for line in BINOMIAL.lines:
            if line[:4] in ("read", "page"):
                book = book.without(line)
        self.same([book.size, str(book)], [0, "book of 1 kinds, 2 states, 0 pages"])
        for line in reversed(GUIDED.lines):
            if line.split(" ")[0] in ("read", "page", "start", "ends"):
                book = book.with_line(line)
        self.assertEqual(book, GUIDED)


class RenamedTest(Case):
    def test_nothing_new(self):
        for book in (BINOMIAL, GUIDED, odd(), ZZ_BOOK):
            self.assertEqual(renamed_book(book), book)
            self.assertEqual(renamed_book(book, kinds=None, states=None, notes=None), book)
            same = {name: name for name in book.kinds.names}
            self.assertEqual(renamed_book(book, kinds=same), book)

    def test_each_sort_of_names(self):
        book = renamed_book(BINOMIAL, kinds={"a": "t"}, states={"s": "one", "o": "two", "z": "three"}, notes={"m": "note"})
        self.same(sorted(book.lines), sorted((
            "leaf t", "kind t t+t", "first one", "ends two", "read one 0 three", "read one t two", "read three 0 three",
            "read three t two", "read two 0 three", "read two t two", "start put note", "start meld note", "start take note",
            "page note t+t to t then note", "page note t+t+t to t then note")))
        self.same(renamed_book(BINOMIAL, states={"s": "o", "o": "s", "z": "z"}).lines[2:4], ("first o", "ends s"))
        self.same(renamed_book(BINOMIAL, notes={"m": "n"}).starts, {"put": "n", "meld": "n", "take": "n"})

    def test_names_that_are_exchanged(self):
        book = odd()
        turns = ({"kinds": {"a": "b", "b": "a"}}, {"states": {"s": "o", "o": "z", "z": "s"}}, {"notes": {"m": "n", "n": "t", "t": "m"}},
                 {"kinds": {"a": "b", "b": "a"}, "states": {"s": "z", "z": "s", "o": "o"}, "notes": {"m": "t", "t": "m", "n": "n"}})
        for turn in turns:
            back = {sort: {new: old for old, new in names.items()} for sort, names in turn.items()}
            self.assertNotEqual(renamed_book(book, **turn), book)
            self.assertEqual(renamed_book(renamed_book(book, **turn), **back), book)

    def test_all_is_sorted_again(self):
        lines = ("leaf a", "kind a a+a", "kind b a+a", "first s", "ends m n", "read s a+b m", "read m a+a+b n", "read n b m",
                 "start put p", "start meld p", "start take p", "page p a+a+b to a then q", "page q a+a+b+b to a then p",
                 "page q a+a+a+a to a+b then p")
        book = renamed_book(Book.from_lines(*lines), kinds={"a": "z", "b": "y"}, states={"s": "a", "m": "c", "n": "b"}, notes={"p": "x", "q": "w"})
        self.same(sorted(book.lines), sorted((
            "leaf z", "kind z z+z", "kind y z+z", "first a", "ends b c", "read a y+z c", "read c y+z+z b", "read b y c",
            "start put x", "start meld x", "start take x", "page x y+z+z to z then w", "page w y+y+z+z to z then x",
            "page w z+z+z+z to y+z then x")))

    def test_notes_are_those_of_pages_and_of_starts(self):
        book = odd()
        self.refused(InvalidOperation, renamed_book, book, notes={"m": "x", "n": "y"})
        self.refused(InvalidOperation, renamed_book, BINOMIAL.with_line("page m a to 0 then k"), notes={"m": "x"})
        self.same(renamed_book(book, notes={"m": "x", "n": "y", "t": "z"}).starts, {"put": "x", "meld": "y", "take": "z"})
        book = BINOMIAL.with_line("page m a to 0 then k")
        self.same("page x a to 0 then y" in renamed_book(book, notes={"m": "x", "k": "y"}), True)

    def test_rows_go_with_it(self):
        names = {"a": "b", "b": "a"}
        book, other = odd(), renamed_book(odd(), kinds={"a": "b", "b": "a"}, states={"s": "q", "o": "r", "z": "p"})
        for row in itertools.product(((), A, ("b",), ("a", "b")), repeat=3):
            self.same(other.is_right(tuple(tuple(sorted(names[name] for name in digit)) for digit in row)), book.is_right(row))

    def test_what_is_no_renaming(self):
        wrong = {
            "kinds": ({}, {"a": "x"}, {"a": "x", "b": "x"}, {"a": "x", "b": "y", "c": "z"}, {"a": "x", "c": "y"}, {"a": "X", "b": "y"}),
            "states": ({}, {"s": "x", "o": "y"}, {"s": "x", "o": "y", "z": "x"}, {"s": "x", "o": "y", "z": 0}, {"s": "x", "o": "y", "q": "w"}),
            "notes": ({}, {"m": "x"}, {"m": "x", "n": "x", "t": "x"}, {"m": "x", "n": "y", "t": ""}, {"m": "x", "n": "y", "t": "z", "u": "w"}),
        }
        for sort, values in wrong.items():
            for value in (*values, *STRANGE, [], "x", ("x",), 0):
                if value is not None:
                    self.refused(InvalidOperation, renamed_book, odd(), **{sort: value})

    def test_no_book(self):
        for value in STRANGE:
            if not isinstance(value, Book):
                self.refused(InvalidBook, renamed_book, value)
                self.refused(InvalidBook, renamed_book, value, kinds={}, states={}, notes={})

    def test_dicts_are_not_changed(self):
        kinds = {"a": "b", "b": "a"}
        renamed_book(odd(), kinds=kinds)
        self.same(kinds, {"a": "b", "b": "a"})


class SignsTest(Case):
    def test_lines_in_it(self):
        for book in (BINOMIAL, GUIDED, odd()):
            self.same([line in book for line in book.lines], [True] * len(book))
            self.same([list(book), tuple(book), sorted(book), len(book)],
                      [list(book.lines), book.lines, sorted(book.lines), len(book.lines)])
        for value in (*STRANGE, "read s a", "read s a z", "page m a+a to a then n", "leaf b", BINOMIAL.lines, ("leaf a",), BINOMIAL):
            self.same(value in BINOMIAL, value == "leaf a")

    def test_it_can_be_gone_over_again(self):
        self.same([[one for one in BINOMIAL], [one for one in BINOMIAL]], [list(BINOMIAL.lines)] * 2)
        self.same([(one, other) for one in ZZ_BOOK for other in ZZ_BOOK], list(itertools.product(ZZ_BOOK.lines, repeat=2)))

    def test_equal(self):
        self.same([BINOMIAL == Book.from_lines(*BINOMIAL_LINES), BINOMIAL != Book.from_lines(*BINOMIAL_LINES)], [True, False])
        others = [BINOMIAL, GUIDED, odd(), ZZ_BOOK, renamed_book(BINOMIAL, kinds={"a": "b"}), BINOMIAL.with_line("start put x"),
                  BINOMIAL.with_line("ends y"), *[BINOMIAL.without(line) for line in BINOMIAL.lines if line[:4] in ("read", "page")]]
        for one, other in itertools.permutations(others, 2):
            self.same([one == other, one != other], [False, True])
        for value in (*STRANGE, BINOMIAL.lines, list(BINOMIAL.lines), "\n".join(BINOMIAL.lines), 15, BINOMIAL.reader, BINOMIAL.kinds):
            self.same([BINOMIAL == value, BINOMIAL != value, value == BINOMIAL], [False, True, False])

    def test_str(self):
        self.same([str(GUIDED), str(odd()), str(ZZ_BOOK)], ["book of 1 kinds, 4 states, 6 pages", "book of 2 kinds, 3 states, 2 pages",
                                                           "book of 1 kinds, 2 states, 1 pages"])

    def test_size(self):
        self.same([BINOMIAL.size, GUIDED.size, ZZ_BOOK.size], [8, 16, 2])
        self.same(BINOMIAL.without("read s a o").size, 7)

    def test_a_page_of_it_has_all(self):
        self.same([Page.from_line(line) in BINOMIAL.machine for line in BINOMIAL.lines if line.startswith("page")], [True, True])
