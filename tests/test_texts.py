"""Texts: [0.4], [18.1] and the first sections of stage 18."""

import itertools
import random

import linkbooks.text.texts as module
from linkbooks.base.rows import read_row, write_row
from linkbooks.book.books import DEEDS, Book
from linkbooks.decide.papers import is_paper, paper
from linkbooks.decide.tables import Table, start_of
from linkbooks.errors import InvalidBook, InvalidKinds, InvalidOperation, InvalidPage, InvalidPaper, InvalidReader, LinkError, ParseError
from linkbooks.text.texts import read_book, read_deed, read_paper, read_stand, write_book, write_deed, write_paper, write_stand
from tests.deciding import FEW, LESS, all_deeds, drawn_books
from tests.helper import BINOMIAL, BINOMIAL_LINES, GREAT, GUIDED, STRANGE, TOO_GREAT, Case
from tests.test_rows import row_of

A = ("a",)
DRAWN = drawn_books(61, 20)
STAND = (2, ("z", "o"), ("a", "b"), "m", "z", True)
STANDS = (
    STAND, (0, ("",), (), "m", "", False), (0, ("s",), ("a",), "m", "s", True), (GREAT, ("", ""), ("b", "b"), "eightchr", "eightchr", False), (7, ("x", ""), (), "q", "", True),
    (1, ("", "y"), ("a", "a"), "yes", "no", False), (10, ("yes",), ("no", "yes"), "put", "good", True),
)
DEED_VALUES = (
    ("put",), ("meld", ()), ("meld", (A,)), ("meld", ((), ("a", "b"), (), A)), ("meld", (("a",) * 20,)), ("meld", row_of(402)), ("take", 0, A), ("take", 2, ("a", "b", "a")),
    ("take", 400, ("a",) * 401), ("take", 1, ("eightchr", "put")), ("meld", (("put",),)), ("take", 0, ("take",)),
)
NO_DEEDS = (
    *STRANGE, "put", ["put"], ("Put",), ("put", ()), ("put", None), ("meld",), ("meld", "a"), ("meld", ((),)), ("meld", (A, ())), ("meld", [A]), ("meld", ((("a",),),)), ("meld", row_of(403)), ("meld", (("b", "a"),)),
    ("meld", (("a",) * 21,)), ("take",), ("take", 0), ("take", 0, ()), ("take", 0, "a"), ("take", 0, ["a"]), ("take", 1, A), ("take", 0, ("a", "a")), ("take", -1, ()), ("take", 401, ("a",) * 402), ("take", True, ("a", "a")),
    ("take", False, A), ("take", None, A), ("take", "0", A), ("take", 0, ("A",)), ("take", 0, ("",)), ("take", 0, (None,)), ("take", 0, A, A), ("take", TOO_GREAT, A), (0, "take", A), ("meld", A, A), (("put",),),
)
PAPERS = (
    ("good", ()), ("good", (STANDS[1],)), ("good", (STANDS[1], STANDS[2])), ("good", ((0, ("", "s"), (), "m", "", False), (0, ("", "s"), (), "m", "", True))), ("bad", (), ("put",)), ("bad", (A,), ("meld", (A, A))),
    ("bad", read_row("a+a 0 b"), ("take", 1, ("a", "b"))), ("bad", row_of(402), ("take", 400, ("a",) * 401)), ("bad", (), ("meld", ())),
)


def altered(chance, text):
    """The text with a sign changed, left out or put in."""
    at = chance.randrange(len(text) + 1)
    return text[:at] + chance.choice(["", *" ab+0.,>-\nysnopm1"]) + text[at + chance.randrange(2):]


class InterfaceTest(Case):
    def test_names(self):
        names = ("write_book", "read_book", "write_deed", "read_deed", "write_stand", "read_stand", "write_paper", "read_paper")
        self.defined_in(module, *names)
        for name, parameter in zip(names, ("book", "text", "deed", "text", "stand", "text", "paper", "text")):
            self.signature(getattr(module, name), f"({parameter})")

    def test_examples(self):
        table = Table(BINOMIAL, "put")
        self.same([write_deed(("take", 1, ("a", "b"))), read_deed("meld -"), write_stand(start_of(BINOMIAL, "meld")), read_stand("0 . 0 m o yes") in table],
                  ["take 1 a>b", ("meld", ()), "0 s,s 0 m s yes", True])
        self.same([write_paper(paper(LESS, "meld")), read_paper("good")], ["bad\na a\nmeld a a", ("good", ())])


class BookTest(Case):
    def test_there_and_back(self):
        for book in (*FEW, *DRAWN):
            text = write_book(book)
            self.same([text, read_book(text) == book], ["\n".join(book.lines), True])
            lines = list(book.lines)
            random.Random(1).shuffle(lines)
            self.same([read_book("\n".join(lines)) == book, write_book(read_book("\n".join(lines)))], [True, text])

    def test_one_text_for_equal_books_only(self):
        books = [*FEW, *DRAWN]
        for one, other in itertools.combinations(books, 2):
            self.same(write_book(one) == write_book(other), one == other)

    def test_lines_changed(self):
        for book in (BINOMIAL, GUIDED):
            lines = list(book.lines)
            for at in range(len(lines)):
                for other in ("", " ", lines[at] + " ", "fly", lines[0] if at else lines[1], lines[at].replace(" ", "  ")):
                    index = max(at, 1) if other == lines[1 if at == 0 else 0] else at
                    self.refused_with(ParseError, "number", index, read_book, "\n".join([*lines[:at], other, *lines[at + 1:]]))
                self.refused_with(ParseError, "number", len(lines), read_book, "\n".join([*lines, lines[at]]))
        self.refused_with(ParseError, "number", len(BINOMIAL_LINES), read_book, "\n".join(BINOMIAL_LINES) + "\n")
        self.refused_with(ParseError, "number", 0, read_book, "\n" + "\n".join(BINOMIAL_LINES))

    def test_as_of_from_lines(self):
        lines = list(BINOMIAL_LINES)
        for at, error in ((0, InvalidKinds), (2, InvalidReader), (3, InvalidReader), (1, InvalidPage), (10, InvalidBook)):
            left = lines[:at] + lines[at + 1:]
            wanted = None
            try:
                Book.from_lines(*left)
            except LinkError as told:
                wanted = type(told)
            self.same(wanted in (error, InvalidBook, InvalidPage), True)
            self.refused(wanted, read_book, "\n".join(left))

    def test_wrong_values(self):
        for value in STRANGE:
            if not isinstance(value, Book):
                self.refused(InvalidBook, write_book, value)
            if isinstance(value, str):
                self.assertRaises(LinkError, read_book, value)
            else:
                self.refused_with(ParseError, "number", None, read_book, value)
        for value in ("", "\n", " ", "fly", "\n\n"):
            self.refused_with(ParseError, "number", 0, read_book, value)
        self.refused_with(ParseError, "number", None, read_book, BINOMIAL_LINES)
        self.refused(InvalidBook, write_book, BINOMIAL_LINES)


class DeedTest(Case):
    def test_there_and_back(self):
        for deed in DEED_VALUES:
            self.same([type(write_deed(deed)), read_deed(write_deed(deed))], [str, deed])
        for book in (BINOMIAL, *DRAWN[:5]):
            for kind in DEEDS:
                for _, _, deed in all_deeds(book, kind, 6)[:40]:
                    self.same(read_deed(write_deed(deed)), deed)
        self.same([write_deed(deed) for deed in DEED_VALUES[:4]], ["put", "meld -", "meld a", "meld 0 a+b 0 a"])
        self.same([write_deed(("take", 2, ("a", "b", "a"))), read_deed("take 0 a"), read_deed("meld put")], ["take 2 a>b>a", ("take", 0, A), ("meld", (("put",),))])
        self.same(len({write_deed(deed) for deed in DEED_VALUES}), len(DEED_VALUES))

    def test_no_deeds(self):
        for value in NO_DEEDS:
            self.refused(InvalidOperation, write_deed, value)

    def test_no_texts(self):
        for text in (*STRANGE, "", "Put", "put ", " put", "put\n", "puts", "put put", "meld", "meld ", "meld  ", "meld 0", "meld a 0", "meld a  a", "meld a a ", "meld b+a", "meld - a", "meld  -", "meld A", "melds a", "meld\na", "meld a\n",
                     "meld 1", "meld a+" + "a+" * 19 + "a", "take", "take 0", "take 0 ", "take 00 a", "take +0 a", "take -0 a", "take 0 a>a", "take 1 a", "take 1 a>", "take 1 >a", "take 1 a>>a", "take 1 a>A", "take 1 a,a", "take 0  a",
                     "take a 0", "take 0 a ", " take 0 a", "take 01 a>a", "take 401 " + "a>" * 401 + "a", "take 1.0 a>a", "take " + "1" * 61 + " a", "take " + "1" * 3990, "take \u00b2 a>a>a", "take 0 ", "take 0 -", "took 0 a", ("put",), ["put"], b"put"):
            self.refused_with(ParseError, "number", None, read_deed, text)

    def test_one_sign_changed(self):
        chance = random.Random(4)
        known = 0
        for _ in range(4000):
            text = altered(chance, write_deed(chance.choice([deed for deed in DEED_VALUES if len(write_deed(deed)) < 60])))
            try:
                deed = read_deed(text)
            except ParseError as error:
                self.same(error.number, None)
                continue
            self.same(write_deed(deed), text)
            known += 1
        self.assertGreater(known, 100)

    def test_limits(self):
        self.same(read_deed(f"meld {write_row(row_of(402))}"), ("meld", row_of(402)))
        self.refused(ParseError, read_deed, "meld " + "0 " * 402 + "a")
        self.same(read_deed("take 400 " + "a>" * 400 + "a"), ("take", 400, ("a",) * 401))


class StandTest(Case):
    def test_there_and_back(self):
        for stand in STANDS:
            self.same([type(write_stand(stand)), read_stand(write_stand(stand))], [str, stand])
        for book in (*FEW, *DRAWN):
            for kind in DEEDS:
                for stand in Table(book, kind):
                    self.same([read_stand(write_stand(stand)), read_stand(write_stand(stand)) in Table(book, kind) if len(Table(book, kind)) < 20 else True], [stand, True])
        self.same([write_stand(stand) for stand in STANDS[:3]], ["2 z,o a+b m z yes", "0 . 0 m . no", "0 s a m s yes"])
        self.same([write_stand(STANDS[4]), write_stand(STANDS[5]), len({write_stand(stand) for stand in STANDS})], ["7 x,. 0 q . yes", "1 .,y a+a yes no no", len(STANDS)])

    def test_no_stands(self):
        parts = (
            (0, (-1, True, None, "0", TOO_GREAT, (0,))), (1, ((), ("a", "b", "c"), ["a"], "a", (None,), ("A",), (".",), ("a", 0), (("a",),))),
            (2, (("b", "a"), ("a", "a", "a"), ["a"], "a", None, ("",), 0)), (3, ("", ".", "M", None, ("m",), "ninechars", 0)), (4, (None, ".", "M", ("z",), 0, False)), (5, (0, 1, None, "yes", "", ())),
        )
        for at, values in parts:
            for value in values:
                self.refused(InvalidOperation, write_stand, (*STAND[:at], value, *STAND[at + 1:]))
        for value in (*STRANGE, STAND[:5], (*STAND, True), list(STAND), (STAND,), write_stand(STAND)):
            self.refused(InvalidOperation, write_stand, value)

    def test_no_texts(self):
        words = write_stand(STAND).split(" ")
        for at, values in enumerate((("", "-1", "+1", "01", "a", "1.0", "9" * 61, "."), ("", ",", "z,", ",o", "z,o,z", "Z", "z;o", "z,,o", "0", ".,.,.", "z, o"), ("", ".", "b+a", "a+a+a", "A", "-", "a+", "1"),
                                     ("", ".", "0", "M", "ninechars", "m,m"), ("", "0", "Z", "ninechars", "..", "z,z"), ("", "True", "YES", "y", "1", ".", "nope"))):
            for value in values:
                self.refused_with(ParseError, "number", None, read_stand, " ".join([*words[:at], value, *words[at + 1:]]))
        text = write_stand(STAND)
        for value in (*STRANGE, "", text + " ", " " + text, text + "\n", text + " yes", text.replace(" ", "  "), text.replace(" ", "\n"), " ".join(words[:5]), STAND, [text], text.encode()):
            self.refused_with(ParseError, "number", None, read_stand, value)

    def test_one_sign_changed(self):
        chance = random.Random(5)
        known = 0
        for _ in range(4000):
            text = altered(chance, write_stand(chance.choice(STANDS)))
            try:
                stand = read_stand(text)
            except ParseError as error:
                self.same(error.number, None)
                continue
            self.same(write_stand(stand), text)
            known += 1
        self.assertGreater(known, 400)


class PaperTest(Case):
    def test_there_and_back(self):
        for value in PAPERS:
            self.same([type(write_paper(value)), read_paper(write_paper(value))], [str, value])
        self.same(len({write_paper(value) for value in PAPERS}), len(PAPERS))
        for book in (*FEW, *DRAWN):
            for kind in DEEDS:
                told = paper(book, kind)
                self.same([read_paper(write_paper(told)), is_paper(book, kind, read_paper(write_paper(told)))], [told, True])
        self.same(write_paper(PAPERS[2]), "good\n0 . 0 m . no\n0 s a m s yes")
        self.same([write_paper(PAPERS[4]), write_paper(PAPERS[6])], ["bad\n-\nput", "bad\na+a 0 b\ntake 1 a>b"])

    def test_no_papers(self):
        one, other = STANDS[1], STANDS[2]
        for value in (*STRANGE, "good", ("good",), ("good", (), ()), ["good", ()], ("Good", ()), ("good", [one]), ("good", one), ("good", (other, one)), ("good", (one, one)), ("good", (one, None)), ("good", (one, STAND)),
                      ("good", ((True, *one[1:]),)), ("good", ("0 . 0 m . no",)), ("good", {one: 1}), ("bad",), ("bad", ()), ("bad", (), "put"), ("bad", (), ("puts",)), ("bad", ((),), ("put",)), ("bad", [A], ("put",)),
                      ("bad", (A,), ("take", 1, A)), ("bad", (A,), ("put",), ()), ("bad", ("put",), (A,)), ("bad", "a", ("put",)), ("bad", None, None), ("ugly", (), ("put",)), ("good", (A,), ("put",)), (("good", ()),), ("bad", row_of(403), ("put",))):
            self.refused(InvalidPaper, write_paper, value)

    def test_lines_that_are_none(self):
        good = write_paper(("good", Table(BINOMIAL, "put").stands)).split("\n")
        for at in range(len(good)):
            for line in ("", "fly", good[at] + " ", " " + good[at], good[at].upper(), "put"):
                self.refused_with(ParseError, "number", at, read_paper, "\n".join([*good[:at], line, *good[at + 1:]]))
            if at:
                self.refused_with(ParseError, "number", at + 1, read_paper, "\n".join([*good[:at], good[at], *good[at:]]))
                self.same(read_paper("\n".join(good[:at]))[1], tuple(read_stand(line) for line in good[1:at]))
        self.refused_with(ParseError, "number", 2, read_paper, "\n".join([good[0], good[2], good[1]]))
        self.refused_with(ParseError, "number", len(good), read_paper, "\n".join(good) + "\n")
        self.refused_with(ParseError, "number", 2, read_paper, "good\n0 s 0 m s yes\n1 s,s 0 m s yes")
        self.refused_with(ParseError, "number", 3, read_paper, "good\n0 s,s 0 m s no\n0 s,s 0 m s yes\n0 z 0 m s yes")
        self.refused_with(ParseError, "number", 1, read_paper, "good\nbad")

    def test_bad_texts(self):
        for text, number in (("bad", 1), ("bad\n", 1), ("bad\na", 2), ("bad\na\n", 2), ("bad\na\nput\n", 3), ("bad\na\nput\nput", 3), ("bad\n0\nput", 1), ("bad\nput\nput", 3), ("bad\na\nputs", 2), ("bad\n0\nputs", 1), ("bad\nA", 1),
                             ("bad ", 0), (" bad", 0), ("Bad\na\nput", 0), ("", 0), ("\n", 0), ("goods", 0), ("good ", 0), ("fly\nfly", 0), ("bad\n\nput", 1), ("bad\na a", 2), ("put", 0), ("bad\n-\nmeld", 2), ("good\n", 1)):
            if text == "bad\nput\nput":
                self.same(read_paper(text), ("bad", (("put",),), ("put",)))
            else:
                self.refused_with(ParseError, "number", number, read_paper, text)

    def test_no_strings(self):
        for value in STRANGE:
            if isinstance(value, str):
                self.refused_with(ParseError, "number", 0, read_paper, value)
            else:
                self.refused_with(ParseError, "number", None, read_paper, value)
        self.refused_with(ParseError, "number", None, read_paper, ("good",))
        self.refused_with(ParseError, "number", None, read_paper, b"good")

    def test_one_sign_changed(self):
        chance = random.Random(6)
        texts = [write_paper(value) for value in PAPERS if len(write_paper(value)) < 200] + [write_paper(paper(book, kind)) for book in (BINOMIAL, LESS) for kind in DEEDS]
        known = 0
        for _ in range(5000):
            text = altered(chance, chance.choice(texts))
            try:
                value = read_paper(text)
            except ParseError as error:
                self.same(0 <= error.number <= len(text.split("\n")), True)
                continue
            self.same(write_paper(value), text)
            known += 1
        self.assertGreater(known, 200)
