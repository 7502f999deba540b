"""Right rows counted: [0.4], [8.1] and stage 8."""

import random

import linkbooks.count.rows as module
from linkbooks.base.rows import keys_of, read_row, trees_of
from linkbooks.book.books import Book
from linkbooks.count.rows import (
    count_right, each_right, least_keys, most_keys, most_trees, next_keys, number_of, right_at,
)
from linkbooks.errors import InvalidBook, InvalidNumber, InvalidRow
from tests.books import ALONE, BOOKS, EVEN, FULL, HYPER, NOTHING, SHORT, TERNARY, TURNS, drawn_book, rows_up_to
from tests.helper import BINOMIAL, GREAT, GUIDED, STRANGE, TOO_GREAT, Case
from tests.test_ranks import KNOWN, made
from tests.test_rows import row_of

MANY = 70
SIXTY = (10 ** 59, GREAT, 2 ** 199 - 1, 2 ** 198, 3 ** 125, int("123456789012" * 5), int("907" * 20))
NO_COUNTS = [value for value in STRANGE if not (type(value) is int and 0 <= value < TOO_GREAT)]


def stern(number):
    """The number at a place of Stern's sequence: 0, 1, 1, 2, 1, 3, 2, 3, 1 and so on."""
    one, other = 1, 0
    while number:
        one, other = (one + other, other) if number & 1 == 0 else (one, one + other)
        number >>= 1
    return other


def in_base(number, base):
    """The row of the figures of a number."""
    row = []
    while number:
        row.append(("a",) * (number % base))
        number //= base
    return tuple(row)


def some_books():
    """The known books, and many by chance."""
    chance = random.Random(21)
    yield from BOOKS
    for makings, _, _ in KNOWN:
        kinds = made(makings)
        digits = sorted({(), (kinds.leaf,), *[tuple(sorted(chance.choices(kinds.names, k=chance.choice((1, 2, 3))))) for _ in range(4)]})
        book = drawn_book(chance, kinds, digits)
        if book is not None:
            yield book


class InterfaceTest(Case):
    def test_functions_are_defined_here(self):
        for name in ("count_right", "each_right", "next_keys", "most_trees"):
            self.signature(getattr(module, name), "(book, keys)")
        for name in ("least_keys", "most_keys"):
            self.signature(getattr(module, name), "(book, ranks)")
        self.signature(right_at, "(book, keys, number)")
        self.signature(number_of, "(book, row)")
        self.defined_in(module, "count_right", "right_at", "number_of", "each_right", "next_keys", "least_keys", "most_keys", "most_trees")

    def test_examples(self):
        found = [count_right(BINOMIAL, 10 ** 50), right_at(BINOMIAL, 5, 0), [count_right(GUIDED, keys) for keys in range(9)]]
        self.same(found, [1, (("a",), (), ("a",)), [1, 1, 1, 1, 2, 1, 1, 1, 3]])
        found = [list(each_right(GUIDED, 4)), number_of(GUIDED, read_row("0 a+a")), least_keys(GUIDED, 3), most_keys(GUIDED, 3)]
        self.same(found, [[((), ("a", "a")), ((), (), ("a",))], 0, 4, 10])


class ByForceTest(Case):
    def test_the_rows_themselves(self):
        for book in BOOKS:
            for keys, rows in rows_up_to(book, MANY).items():
                for row in rows:
                    self.same([book.is_right(row), keys_of(book.kinds, row)], [True, keys])

    def test_counted_and_numbered(self):
        for book in some_books():
            known = rows_up_to(book, MANY)
            for keys in range(MANY + 1):
                rows = known.get(keys, [])
                self.same(count_right(book, keys), len(rows))
                self.same(list(each_right(book, keys)), rows)
                self.same(most_trees(book, keys), max([trees_of(row) for row in rows], default=None))
                for number, row in enumerate(rows):
                    self.same([right_at(book, keys, number), number_of(book, row)], [row, number])
                for number in (len(rows), len(rows) + 1, GREAT):
                    self.refused_with(InvalidNumber, "value", number, right_at, book, keys, number)

    def test_next_keys(self):
        for book in some_books():
            known = list(rows_up_to(book, MANY))
            for keys in range(known[-1]):
                self.same(next_keys(book, keys), min(more for more in known if more > keys))
            above = next_keys(book, known[-1])
            self.assertTrue(above is None or above > MANY)

    def test_least_and_most_keys(self):
        for book in some_books():
            # Rows with so many ranks have at most three trees of at most 3 ** rank nodes at each rank.
            rows = [(len(row), keys) for keys, rows in rows_up_to(book, 120).items() for row in rows]
            for ranks in range(5):
                known = [keys for many, keys in rows if many == ranks]
                self.same(least_keys(book, ranks), min(known, default=None))
                self.same(most_keys(book, ranks), max(known, default=None))

    def test_books_with_gaps_and_with_plenty(self):
        self.same([keys for keys in range(30) if count_right(EVEN, keys) == 0], [2, 3, *range(6, 16), 18, 19, *range(22, 30)])
        self.same([count_right(HYPER, keys) for keys in range(12)], [1, 1, 2, 1, 3, 2, 3, 1, 4, 3, 5, 2])
        self.same([count_right(ALONE, keys) for keys in range(5)], [1, 0, 1, 0, 0])
        self.same([count_right(NOTHING, keys) for keys in range(3)], [1, 0, 0])
        self.assertGreater(max(count_right(TURNS, keys) for keys in range(MANY)), 3)

    def test_order(self):
        rows = list(each_right(HYPER, 36))
        self.same(len(rows), stern(37))
        self.same(rows, sorted(rows, key=lambda row: (len(row), row[::-1])))
        self.same([rows[0], rows[-1]], [read_row("a+a a a+a a a"), read_row("0 0 a 0 0 a")])


class GreatTest(Case):
    def test_one_row_for_each_number(self):
        for book, base in ((BINOMIAL, 2), (TERNARY, 3)):
            for keys in SIXTY:
                row = in_base(keys, base)
                self.same([count_right(book, keys), right_at(book, keys, 0), number_of(book, row), list(each_right(book, keys))], [1, row, 0, [row]])
                self.same([next_keys(book, keys), next_keys(book, keys - 1), most_trees(book, keys)], [keys + 1, keys, trees_of(row)])
                self.refused_with(InvalidNumber, "value", 1, right_at, book, keys, 1)

    def test_without_empty_digits(self):
        for keys in (*SIXTY, *range(1, 60)):
            row, rest = [], keys
            while rest:
                row.append(("a",) if rest & 1 else ("a", "a"))
                rest = (rest - len(row[-1])) // 2
            self.same([count_right(FULL, keys), right_at(FULL, keys, 0)], [1, tuple(row)])

    def test_many_rows_for_a_number(self):
        for keys in SIXTY:
            many = stern(keys + 1)
            self.same(count_right(HYPER, keys), many)
            rows = []
            for number in sorted({0, 1, many // 3, many // 2, many - 2, many - 1} & set(range(min(many, 10 ** 6))) | {0, many // 2, many - 1}):
                rows.append(right_at(HYPER, keys, number))
                self.same([number_of(HYPER, rows[-1]), keys_of(HYPER.kinds, rows[-1]), HYPER.is_right(rows[-1])], [number, keys, True])
            self.same(rows, sorted(rows, key=lambda row: (len(row), row[::-1])))
            self.same(rows[-1], in_base(keys, 2))
            for number in (many, many + 1, GREAT):
                self.refused_with(InvalidNumber, "value", number, right_at, HYPER, keys, number)
            for first in each_right(HYPER, keys):
                self.same(first, rows[0])
                break

    def test_next_keys_where_many_are_missing(self):
        # At even ranks the figures in base 4 are 0 or 1.
        self.same(next_keys(EVEN, 2 * 4 ** 90), 4 ** 91)
        self.same(next_keys(EVEN, 4 ** 90), 4 ** 90 + 1)
        self.same(next_keys(EVEN, 4 ** 90 + (4 ** 90 - 1) // 3), 4 ** 91)
        self.same([count_right(EVEN, 4 ** 90 + 4 ** 7 + 1), count_right(EVEN, 2 * 4 ** 90)], [1, 0])
        self.same([next_keys(ALONE, 0), next_keys(ALONE, 1), next_keys(ALONE, 2), next_keys(ALONE, GREAT)], [2, 2, None, None])
        self.same([next_keys(NOTHING, 0), next_keys(NOTHING, GREAT), next_keys(BINOMIAL, GREAT)], [None, None, TOO_GREAT])
        self.same(next_keys(SHORT, GREAT), None)

    def test_next_keys_with_great_rows_of_few_ranks(self):
        # A row with two ranks has eight keys at least, one with three ranks four.
        book = Book.from_lines("leaf a", "kind a a+a", "first s", "ends o p", "read s a+a+a x", "read s 0 y", "read x a+a+a o",
                               "read y 0 z", "read z a p", "start put m", "start meld m", "start take m")
        self.same([next_keys(book, keys) for keys in (0, 3, 4, 8, 9)], [4, 4, 9, 9, None])
        # All rows are like 0 0 a+a+a or 0 0 a 0 a.
        book = Book.from_lines("leaf a", "kind a a+a", "first s", "ends o p", "read s 0 x", "read x 0 x", "read x a+a+a o", "read x a y",
                               "read y 0 z", "read z a p", "start put m", "start meld m", "start take m")
        for keys in (2 ** 9 + 1, 2 ** 150 + 5, 2 ** 198 + 2 ** 197):
            rows = [keys for rank in range(1, 220) for keys in (3 << rank, 5 << rank)]
            self.same(next_keys(book, keys), min(more for more in rows if more > keys))

    def test_400_and_401_ranks(self):
        for book, least, most in ((BINOMIAL, 2 ** 399, 2 ** 400 - 1), (TERNARY, 3 ** 399, 3 ** 400 - 1), (HYPER, 2 ** 399, 2 ** 401 - 2),
                                  (FULL, 2 ** 400 - 1, 2 ** 401 - 2)):
            self.same([least_keys(book, 400), most_keys(book, 400)], [least, most])
            for ranks in (401, 402, 500, GREAT):
                self.refused_with(InvalidNumber, "value", ranks, least_keys, book, ranks)
                self.refused_with(InvalidNumber, "value", ranks, most_keys, book, ranks)
        self.same([number_of(BINOMIAL, row_of(400)), number_of(HYPER, row_of(400))], [0, stern(2 ** 399 + 1) - 1])
        self.same(number_of(HYPER, (("a", "a"),) * 400), 0)
        self.refused(InvalidRow, number_of, BINOMIAL, row_of(401))
        self.refused(InvalidRow, number_of, BINOMIAL, (("a",),) * 401)

    def test_books_without_rows_of_so_many_ranks(self):
        self.same([[least_keys(EVEN, ranks), most_keys(EVEN, ranks)] for ranks in range(7)],
                  [[0, 0], [1, 1], [None, None], [4, 5], [None, None], [16, 21], [None, None]])
        self.same([least_keys(SHORT, 3), most_keys(SHORT, 3), least_keys(SHORT, 4), most_keys(SHORT, 400)], [6, 13, None, None])
        self.same([least_keys(NOTHING, ranks) for ranks in (0, 1, 400)], [0, None, None])


class WrongTest(Case):
    CALLS = ((count_right, 5), (next_keys, 5), (most_trees, 5), (least_keys, 5), (most_keys, 5))

    def asked(self, call, *args):
        """The error with which a generator is refused when its first result is asked for."""
        found = call(*args)
        return lambda: next(found)

    def test_no_book(self):
        for value in STRANGE:
            if not isinstance(value, Book):
                for call, number in self.CALLS:
                    self.refused(InvalidBook, call, value, number)
                    self.refused(InvalidBook, call, value, None)
                self.refused(InvalidBook, right_at, value, 5, 0)
                self.refused(InvalidBook, right_at, value, -1, -1)
                self.refused(InvalidBook, number_of, value, ())
                self.refused(InvalidBook, number_of, value, None)
                self.refused(InvalidBook, self.asked(each_right, value, 5))
                self.refused(InvalidBook, self.asked(each_right, value, -1))

    def test_keys_that_are_none(self):
        for value in NO_COUNTS:
            for call, _ in self.CALLS:
                self.keeps(value, call, BINOMIAL, value)
            self.keeps(value, right_at, BINOMIAL, value, 0)
            self.keeps(value, right_at, BINOMIAL, value, -1)
            self.keeps(value, self.asked(each_right, BINOMIAL, value))
            self.keeps(value, right_at, BINOMIAL, 5, value)
            self.keeps(value, right_at, ALONE, 1, value)

    def keeps(self, value, call, *args):
        """A call is refused with an InvalidNumber that keeps this very value."""
        self.assertIs(self.refused(InvalidNumber, call, *args).value, value)

    def test_rows_that_are_not_right(self):
        for value in (*STRANGE, (("a", "a"),), read_row("a a+a"), (("a",), ()), ((),), [("a",)], (("b",),)):
            if not (isinstance(value, tuple) and value == ()):
                self.refused(InvalidRow, number_of, BINOMIAL, value)
        self.refused(InvalidRow, number_of, TURNS, (("b",),))
        self.refused(InvalidRow, number_of, TURNS, (("a",), ("a",)))
        self.same([number_of(BINOMIAL, ()), number_of(NOTHING, ())], [0, 0])

    def test_the_empty_row(self):
        for book in BOOKS:
            self.same([count_right(book, 0), right_at(book, 0, 0), list(each_right(book, 0)), most_trees(book, 0)], [1, (), [()], 0])
            self.same([least_keys(book, 0), most_keys(book, 0), number_of(book, ())], [0, 0, 0])
            self.refused_with(InvalidNumber, "value", 1, right_at, book, 0, 1)

    def test_generators_raise_when_they_are_asked(self):
        for args in ((None, 5), (BINOMIAL, -1), (BINOMIAL, True)):
            each_right(*args)
        self.same(iter(each_right(BINOMIAL, 5)) is None, False)

    def test_equal_calls_return_equal_results(self):
        for _ in range(2):
            rows = [((), ("a", "a"), ("a",)), ((), (), ("a", "a")), ((), (), (), ("a",))]
            self.same([count_right(GUIDED, 40), list(each_right(GUIDED, 8)), next_keys(GUIDED, 40)], [6, rows, 41])
