"""The shell: [18.2] and class Shell."""

import random

import linkbooks.text.shell as module
from linkbooks.base.rows import read_row, write_row
from linkbooks.book.books import DEEDS, Book
from linkbooks.count.rows import count_right
from linkbooks.decide.links import least_keys_for, links_bound
from linkbooks.decide.papers import is_good, paper
from linkbooks.decide.plans import Plan, parting_rows
from linkbooks.decide.tables import Table
from linkbooks.decide.uses import lacking, unmet
from linkbooks.deeds.rows import new_row
from linkbooks.errors import (
    InvalidBook, InvalidKinds, InvalidNumber, InvalidOperation, InvalidPage, InvalidReader, InvalidRow, LinkError, NothingToUndo, ParseError, Refused, TooMany, UnknownName,
)
from linkbooks.text.shell import Shell
from linkbooks.text.texts import read_deed, write_book, write_deed, write_paper
from linkbooks.use.bench import Bench
from tests.books import EVEN, FULL, HYPER, TURNS
from tests.deciding import LESS, drawn_page
from tests.helper import BINOMIAL, BINOMIAL_LINES, GREAT, GUIDED, STRANGE, Case
from tests.test_tables import GREAT_BOOK, TOO_GREAT_BOOK

LINE = "page m a+a+a to a then m"
WORDS = {InvalidKinds: "kinds", InvalidReader: "reader", InvalidPage: "page", InvalidBook: "book", InvalidRow: "row", InvalidOperation: "operation", UnknownName: "unknown", ParseError: "line", InvalidNumber: "number",
         NothingToUndo: "undo"}
PLANS = ("A", "A'", "(A+B)", "(B+A)", "(A+B)'", "(A'+B)", "((A+B)+C)", "(A+(B+C))", "A''")
ROWS = ("-", "a", "0 a", "a a", "a 0 a", "a+a", "0 a+a", "a a+a", "b", "0 b", "0 0 0 a")
DEED_TEXTS = ("put", "meld -", "meld a", "meld a a", "meld 0 a", "take 0 a", "take 1 a>a", "take 2 a>a>a", "take 1 a>b")


def joined(texts):
    return "; ".join(texts) or "nothing"


def news_text(news):
    return ", ".join(f"{kind} {'good' if good else 'bad'}" for kind, good in news) or "nothing"


def pledge_text(pledge):
    if pledge[0] == "done":
        return f"done {write_deed(pledge[2])} in {write_row(pledge[1])}"
    return " ".join(str(word) for word in pledge)


def number_text(value):
    return "none" if value is None else str(value)


def pledges_drawn(chance):
    """A pledge by chance, with its text."""
    kind = chance.choice(DEEDS)
    pledge = chance.choice((("good", kind), ("links", kind, chance.randrange(4)), ("alike", chance.choice(PLANS), chance.choice(PLANS)),
                            ("done", read_row(chance.choice(ROWS)), read_deed(chance.choice(DEED_TEXTS)))))
    return pledge, pledge_text(pledge)


def asked(chance, bench):
    """A command by chance, with a call that tells its answer by the functions of the other stages."""
    book, kind, row, deed = bench.book, chance.choice(DEEDS), chance.choice(ROWS), chance.choice(DEED_TEXTS)
    one, other, many = chance.choice(PLANS), chance.choice(PLANS), chance.choice((0, 1, 2, 3, 5, 200, 201, 10 ** 20))
    pledge, text = pledges_drawn(chance)
    there = chance.choice(bench.pledges) if bench.pledges else pledge
    line = chance.choice((drawn_page(chance, book.kinds, "mn"), *book.lines, LINE, "read o a+a o", "fly", "", "read z 0 o", "page m c to 0 then m", "read o b o", f"start {kind} {chance.choice('mn')}", "ends z"))

    def parted():
        rows = parting_rows(book, Plan(one), Plan(other))
        return "yes" if rows is None else joined(f"{letter} {write_row(rows[letter])}" for letter in rows)

    def told_paper():
        return write_paper(paper(book, kind)).replace("\n", "; ") if paper(book, kind)[0] == "bad" else "good"
    return chance.choice((
        (f"draw {line}", lambda: news_text(bench.draw(line))), (f"erase {line}", lambda: news_text(bench.erase(line))),
        (f"demand {text}", lambda: news_text(bench.demand(pledge))), (f"waive {text}", lambda: news_text(bench.waive(pledge))),
        (f"waive {pledge_text(there)}", lambda: news_text(bench.waive(there))),
        ("undo", lambda: news_text(bench.undo())), ("redo", lambda: news_text(bench.redo())), ("lines", lambda: joined(book.lines)),
        ("pledges", lambda: joined(pledge_text(each) for each in bench.pledges)), (f"good {kind}", lambda: "yes" if is_good(book, kind) else "no"),
        (f"table {kind}", lambda: str(Table(book, kind))), (f"paper {kind}", told_paper), (f"most {kind}", lambda: number_text(links_bound(book, kind))),
        (f"links {kind} {many}", lambda: number_text(least_keys_for(book, kind, many))),
        (f"lack {kind}", lambda: joined(f"{note} {'+'.join(pool)}" for note, pool in lacking(book, kind))), ("unmet", lambda: joined(unmet(book))),
        (f"alike {one} {other}", parted), (f"count {many}", lambda: str(count_right(book, many))),
        (f"right {row}", lambda: "yes" if book.is_right(read_row(row)) else "no"),
        (f"do {deed} in {row}", lambda: write_row(new_row(book, read_row(row), read_deed(deed)))),
    ))


def answer(call):
    """The answer of a call, and whether it was told without an error."""
    try:
        return call(), True
    except TooMany as error:
        return f"many {error.limit}", False
    except Refused as error:
        return f"refused {pledge_text(error.pledge)}", False
    except tuple(WORDS) as error:
        return WORDS[type(error)], False


class InterfaceTest(Case):
    def test_names(self):
        self.defined_in(module, "Shell")
        self.signature(Shell, "(text)")
        self.methods_of(Shell, {"answer": ["line"], "bench": []}, ())
        for name in ("__init__", "__call__", "__len__"):
            self.assertIn(name, vars(Shell))
        self.signature(Shell.__call__, "(self, line)")

    def test_examples(self):
        shell = Shell(write_book(LESS))
        self.same([shell("good meld"), shell("lack meld"), shell("do meld a a in a a"), shell("demand good take"), shell("draw page m a+a+a to a then m")],
                  ["no", "m a+a+a", "0 a+a+a", "refused good take", "meld good, take good"])
        self.same([shell("demand good take"), shell("alike A' (A+B)"), shell("links put 3"), shell("fly"), len(shell)], ["nothing", "A -; B -", "7", "what", 7])


class BesideBenchTest(Case):
    def test_command_by_command(self):
        met = set()
        for seed, book in enumerate((BINOMIAL, LESS, HYPER, GUIDED, FULL, TURNS, EVEN)):
            chance = random.Random(seed)
            shell, bench, many = Shell(write_book(book)), Bench(book), 0
            for step in range(150):
                command, call = asked(chance, bench)
                wanted, told = answer(call)
                self.same(shell(command) if step % 2 else shell.answer(command), wanted)
                many += told
                self.same(len(shell), many)
                met.add((command.split(" ")[0], told))
                met.add(wanted)
            self.same([shell.bench() == bench, shell.bench().pledges], [True, bench.pledges])
        for word in ("draw", "erase", "demand", "waive", "undo", "redo", "links", "do"):
            self.assertLessEqual({(word, True), (word, False)}, met)
        for word in ("lines", "pledges", "good", "table", "paper", "most", "lack", "unmet", "alike", "count", "right"):
            self.assertIn((word, True), met)
        for word in ("nothing", "yes", "no", "none", "row", "operation", "unknown", "line", "number", "undo", "page", "reader", "book"):
            self.assertIn(word, met)

    def test_known_answers(self):
        shell = Shell(write_book(BINOMIAL))
        for command, wanted in (
                ("lines", "; ".join(BINOMIAL.lines)), ("pledges", "nothing"), ("good put", "yes"), ("table put", "table of 6 stands, 0 wrong"), ("paper put", "good"), ("most put", "none"), ("links put 3", "7"), ("links meld 0", "0"),
                ("lack meld", "nothing"), ("unmet", "nothing"), ("alike (A+B) (B+A)", "yes"), ("alike A B", "A -; B a"), ("count 5", "1"), ("count 0", "1"), ("right a 0 a", "yes"), ("right -", "yes"), ("right a+a", "no"),
                ("do put in a a 0 a", "0 0 a a"), ("do take 0 a in a", "-"), ("do meld - in -", "-"), ("demand done put in a a", "nothing"), ("demand alike (A+B) (B+A)", "nothing"), ("demand links put 5", "refused links put 5"),
                ("pledges", "done put in a a; alike (A+B) (B+A)"), ("waive done put in a a", "nothing"), ("pledges", "alike (A+B) (B+A)"), ("erase " + LINE, "meld bad, take bad"), ("paper meld", "bad; a a; meld a a"),
                ("good take", "no"), ("undo", "meld good, take good"), ("redo", "meld bad, take bad"), ("lack take", "m a+a+a"), ("redo", "undo"), ("do meld a a in a a", "0 a+a+a"), ("demand good meld", "refused good meld"),
                ("demand done meld a a in a a", "refused done meld a a in a a"), ("demand good put", "nothing"), ("erase page m a+a to a then m", "refused good put"), (f"count {GREAT}", "1"), ("unmet", "nothing"),
                ("draw page q a+a to 0 then q", "nothing"), ("draw page q a to 0 then q", "nothing"), ("unmet", "page q a to 0 then q; page q a+a to 0 then q"), ("demand good put", "operation"), ("waive good take", "operation"),
                ("links put 201", "number"), ("draw", "what"), ("draw ", "line"), ("erase ", "unknown"), ("draw leaf a", "line"), ("draw page m b to 0 then m", "page"), ("draw read z 0 o", "reader"), ("draw read z b o", "book"),
                ("draw ends s", "reader"), ("do put in a+a", "row"), ("do take 0 a in 0 a", "operation"), ("do take 1 a>b in 0 a", "operation"), ("most take", "none")):
            self.same(shell(command), wanted)
        guided = Shell(write_book(GUIDED))
        self.same([guided("most put"), guided("most meld"), guided("links put 1"), guided("links put 2"), guided("lack meld")], ["1", "0", "1", "none", "e a+a; e a+a+a; e a+a+a+a"])
        self.same([guided("demand links put 1"), guided("pledges"), len(guided)], ["nothing", "links put 1", 7])

    def test_ten_pledges(self):
        shell = Shell(write_book(BINOMIAL))
        for many in range(10):
            self.same(shell(f"demand done put in {write_row((('a',),) * many)}"), "nothing")
        self.same([shell("demand good put"), shell("demand links put 0"), len(shell)], ["many 10", "many 10", 10])

    def test_many_stands(self):
        shell = Shell(write_book(TOO_GREAT_BOOK.with_line("start meld zz")))
        self.same([shell("draw start meld naa"), shell("table meld") != "", len(shell), shell("undo")], ["many 20000", True, 1, "undo"])
        great = Shell(write_book(GREAT_BOOK))
        self.same([great("alike (((A+B)+C)+A) ((A'+B')+C)"), great("demand alike (((A+B)+C)+A) ((A'+B')+C)"), len(great)], ["many 20000", "many 20000", 0])


class WhatTest(Case):
    def test_what_is_no_command(self):
        shell = Shell(write_book(BINOMIAL))
        commands = (
            "", " ", "fly", "Lines", "lines ", " lines", "lines\n", "lines put", "undo 1", "undo ", "redo 2", "pledges x", "unmet put", "good", "good ", "good puts", "good put ", "good  put", "good put meld", "table", "table a",
            "paper x", "most", "most 3", "links", "links put", "links put -1", "links put x", "links put 1 2", "links 3 put", "links put ", "links puts 3", "links put 03", "links put +3", "links put 3.0", "lack", "lack x",
            "alike", "alike A", "alike A B C", "alike A D", "alike A+B A", "alike A  B", "alike A B ", "alike (A+ B) A", "alike (A + B) A", "count", "count ", "count -1", "count x", "count 1 2", "count 01", "count +1", "count \u00b2",
            "right", "right ", "right 0", "right a 0", "right A", "right  a", "right b+a", "do", "do put", "do put in", "do put in ", "do put a", "do in a", "do puts in a", "do put in 0", "do meld in a",
            "do take 0 in a", "do take 0 b>a in a", "do put  in a", "do put in  a", "demand", "demand ", "demand put", "demand good", "demand good x", "demand links put", "demand links put -1", "demand links x 3", "demand alike A",
            "demand alike A D", "demand done put", "demand done put in", "demand done puts in a", "demand done put in 0", "demand done in a", "demand fly", "waive", "waive good", "waive x", "waive links put", "demand good put meld",
            "drawpage", "erase", "draw\n", "say good put", "ROW", "put", "meld a", "count one", "demand lines", "count " + "9" * 3990, "right " + "a " * 403 + "a", "~" * 4000)
        for command in commands:
            self.same([shell(command), shell.answer(command)], ["what", "what"])
        for value in STRANGE:
            self.same(shell(value), "what")
        for value in (BINOMIAL, shell, ["lines"], ("lines",), b"lines", {"lines": 1}, 5):
            self.same(shell.answer(value), "what")
        self.same([len(shell), shell("lines") == "; ".join(BINOMIAL.lines), len(shell)], [0, True, 1])

    def test_the_first_in_parts_it(self):
        book = Book.from_lines(*[line.replace(" a", " in").replace("+a", "+in") for line in BINOMIAL_LINES])
        shell = Shell(write_book(book))
        self.same([shell("right in"), shell("do put in in"), shell("do put in in in"), shell("do put in 0 in")], ["yes", "0 in", "0 0 in", "in in"])
        # Parted as `meld` and `in`, as `take 0` and `in in`, as `meld -` and `in in`, and as `put` and `in a`.
        self.same([shell("do meld in in"), shell("do take 0 in in in"), shell("do meld - in in in"), shell("do put in in a")], ["what", "what", "in in", "row"])

    def test_lines_can_be_any_text(self):
        shell = Shell(write_book(BINOMIAL))
        for text in ("", " ", "in", "a in b", "~" * 4000, "draw x", "\n", "page m a+a to a then m\n", " page m a+a to a then m", "lines"):
            self.same([shell("draw " + text), shell("erase " + text)], ["line", "unknown"])
        self.same(len(shell), 0)


class ShellTest(Case):
    def test_bench_is_a_twin(self):
        shell = Shell(write_book(BINOMIAL))
        shell("demand good put")
        bench = shell.bench()
        self.same([bench.pledges, bench == shell.bench(), type(bench)], [(("good", "put"),), True, Bench])
        bench.erase(LINE)
        self.same([shell("good meld"), shell.bench() == bench, shell("erase " + LINE), shell.bench() == bench, bench.undo(), shell("good meld")],
                  ["yes", False, "meld bad, take bad", True, (("meld", True), ("take", True)), "no"])
        self.same([shell("undo"), shell("undo"), shell("undo"), shell("redo"), len(shell)], ["meld good, take good", "nothing", "undo", "nothing", 7])

    def test_wrong_texts(self):
        for value in STRANGE:
            if isinstance(value, str):
                self.assertRaises(LinkError, Shell, value)
            else:
                self.refused_with(ParseError, "number", None, Shell, value)
        self.refused_with(ParseError, "number", 0, Shell, "")
        self.refused_with(ParseError, "number", 15, Shell, write_book(BINOMIAL) + "\n")
        self.refused(InvalidKinds, Shell, "\n".join(BINOMIAL_LINES[1:]))
        self.refused(InvalidReader, Shell, "\n".join([BINOMIAL_LINES[0], *BINOMIAL_LINES[1:2], *BINOMIAL_LINES[3:]]))
        self.refused(InvalidBook, Shell, "\n".join([line for line in BINOMIAL_LINES if line != "start put m"]))
        self.refused_with(TooMany, "limit", 20000, Shell, write_book(TOO_GREAT_BOOK))

    def test_two_shells_share_nothing(self):
        one, other = Shell(write_book(BINOMIAL)), Shell(write_book(BINOMIAL))
        one("erase " + LINE)
        self.same([one("good meld"), other("good meld"), len(one), len(other)], ["no", "yes", 2, 1])
        self.cannot_be_iterated_over(one)
