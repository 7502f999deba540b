"""Links counted: [0.6], [0.12], [0.16] to [0.18], [0.20], [14.1], [14.2] and stage 14."""

import math

import linkbooks.decide.links as module
from linkbooks.base.rows import read_row
from linkbooks.book.books import DEEDS, Book, renamed_book
from linkbooks.decide.links import busy_deed, growth, least_keys_for, links_bound, most_links
from linkbooks.deeds.rows import is_deed, links
from linkbooks.errors import InvalidNumber, InvalidOperation, TooMany
from tests.books import EVEN, FULL, HYPER, NOTHING, SHORT, STARTS, TERNARY
from tests.deciding import FEW, LESS, PlainTable, all_deeds, drawn_books, outcome
from tests.helper import BINOMIAL, GREAT, GUIDED, STRANGE, TOO_GREAT, Case
from tests.test_papers import keys_of_deed
from tests.test_tables import TOO_GREAT_BOOK, WRONG_KINDS, wrong_books, wrong_kinds

A = ("a",)
DRAWN = drawn_books(47, 60)
NO_COUNTS = [value for value in STRANGE if type(value) is not int or not 0 <= value < TOO_GREAT]
# Two trees stand together at every third rank only.
THIRDS = Book.from_lines("leaf a", "kind a a+a", "first s", "ends x", "read s a x", "read x 0 y", "read y 0 z", "read z a x", *STARTS,
                         "page m a+a to a then m")


def made_in(book, row, deed):
    """How many trees a deed makes."""
    return sum(len(made) for _, made, _ in outcome(book, row, deed)[1])


def small(book, kind, most=40):
    """The table as the tests make it, if it is small; None if it is not."""
    plain = PlainTable(book, kind)
    return plain if len(plain.stands) <= most else None


def rings(plain):
    """All rings of moves that go through no stand twice, as pairs of the links and of the number of moves."""
    onward = {}
    for stand, _, after, _, made in plain.inner_moves():
        onward.setdefault(stand, {})
        onward[stand][after] = max(len(made), onward[stand].get(after, 0))
    order = {stand: at for at, stand in enumerate(plain.stands)}
    found = set()

    def go_on(begin, at, made, moves, passed):
        for after, more in onward.get(at, {}).items():
            if after == begin:
                found.add((made + more, moves + 1))
            elif order[after] > order[begin] and after not in passed:
                go_on(begin, after, made + more, moves + 1, passed | {after})
    for stand in plain.stands:
        go_on(stand, stand, 0, 0, {stand})
    return found


def most_on_ways(plain, moves):
    """The most links on ways of at most so many moves from the start to a final stand, None if there is none."""
    best = {plain.start: 0}
    found = [0] if plain.start in plain.finals else []
    inner = plain.inner_moves()
    for _ in range(moves):
        further = {}
        for stand, _, after, _, made in inner:
            if stand in best:
                further[after] = max(further.get(after, 0), best[stand] + len(made))
        best = further
        found += [best[stand] for stand in best if stand in plain.finals]
    return max(found, default=None)


class InterfaceTest(Case):
    def test_names(self):
        self.same(module.MAX_LINKS, 200)
        self.defined_in(module, "most_links", "least_keys_for", "busy_deed", "links_bound", "growth")
        self.signature(most_links, "(book, kind, keys)")
        for call in (least_keys_for, busy_deed):
            self.signature(call, "(book, kind, links)")
        for call in (links_bound, growth):
            self.signature(call, "(book, kind)")

    def test_examples(self):
        self.same([links_bound(GUIDED, "put"), links_bound(BINOMIAL, "put"), growth(BINOMIAL, "put"), growth(GUIDED, "put")], [1, None, (1, 1), (0, 1)])
        self.same([least_keys_for(BINOMIAL, "put", 3), most_links(BINOMIAL, "put", 10 ** 9), busy_deed(GUIDED, "put", 1), least_keys_for(GUIDED, "put", 2)],
                  [7, 29, ((A,), ("put",)), None])


class ByForceTest(Case):
    def test_deeds_with_few_keys(self):
        found = set()
        for book in (*FEW, *DRAWN, THIRDS):
            for kind in DEEDS:
                many = 7 if kind == "meld" else 10
                deeds = [(keys, made_in(book, row, deed)) for keys, row, deed in all_deeds(book, kind, many)]
                for keys in range(many + 1):
                    self.same(most_links(book, kind, keys), max((made for worth, made in deeds if worth <= keys), default=None))
                for made in range(5):
                    wanted = min((worth for worth, each in deeds if each >= made), default=None)
                    keys = least_keys_for(book, kind, made)
                    self.same(keys if keys is None or keys <= many else None, wanted)
                    found.add((kind, made, keys is None))
        self.assertGreater(len(found), 24)

    def test_busy_deeds(self):
        for book in (*FEW, *DRAWN, THIRDS):
            for kind in DEEDS:
                for made in (0, 1, 2, 3, 7, 20):
                    keys, pair = least_keys_for(book, kind, made), busy_deed(book, kind, made)
                    self.same(pair is None, keys is None)
                    if pair is not None:
                        self.same([is_deed(book, *pair), pair[1][0], keys_of_deed(book, *pair)], [True, kind, keys])
                        self.assertGreaterEqual(links(book, *pair), made)
                        self.assertGreaterEqual(most_links(book, kind, keys), made)
                        fewer = most_links(book, kind, keys - 1) if keys else None
                        self.assertTrue(fewer is None or fewer < made)

    def test_growth_against_all_rings(self):
        found = set()
        for book in (*FEW, *DRAWN, THIRDS):
            for kind in DEEDS:
                plain = small(book, kind, 14 if kind == "meld" else 20)
                if plain is not None:
                    best = max(rings(plain), key=lambda ring: ring[0] * 10 ** 6 // ring[1], default=(0, 1))
                    common = math.gcd(*best)
                    self.same(growth(book, kind), (best[0] // common, best[1] // common))
                    found.add(growth(book, kind))
        self.assertGreaterEqual(len(found), 4)

    def test_bounds_against_all_ways(self):
        found = set()
        for book in (*FEW, *DRAWN, THIRDS):
            for kind in DEEDS:
                plain, bound = small(book, kind), links_bound(book, kind)
                self.same(bound is None, growth(book, kind)[0] > 0)
                if plain is not None:
                    many = 2 * len(plain.stands) + 2
                    short, long = most_on_ways(plain, many), most_on_ways(plain, 3 * many)
                    self.same(bound, (short or 0) if short == long else None)
                    found.add(bound)
                if bound is not None:
                    self.same([least_keys_for(book, kind, bound + 1), busy_deed(book, kind, bound + 1)], [None, None])
                    if bound:
                        self.same(links(book, *busy_deed(book, kind, bound)), bound)
                    if all_deeds(book, kind, 5):
                        self.same(most_links(book, kind, 10 ** 40), bound)
        self.assertGreaterEqual(len(found), 4)


class KnownTest(Case):
    def test_binary_numbers(self):
        for made in (0, 1, 2, 9, 100, 200):
            self.same([least_keys_for(BINOMIAL, "put", made), busy_deed(BINOMIAL, "put", made)], [2 ** made - 1, ((A,) * made, ("put",))])
        for keys in (0, 1, 2, 3, 6, 7, 8, 10 ** 30, 2 ** 150 - 1, 2 ** 150 - 2, GREAT):
            self.same(most_links(BINOMIAL, "put", keys), (keys + 1).bit_length() - 1)
        # A meld of two numbers makes as many links as there are ranks from which something is carried.
        for made in (1, 2, 30, 200):
            self.same(least_keys_for(BINOMIAL, "meld", made), 2 ** made)
        self.same([growth(BINOMIAL, kind) for kind in DEEDS], [(1, 1)] * 3)

    def test_two_links_at_a_rank(self):
        self.same([growth(HYPER, "meld"), growth(FULL, "meld"), growth(HYPER, "put"), growth(TERNARY, "meld")], [(2, 1), (2, 1), (1, 1), (1, 1)])
        self.assertGreater(most_links(HYPER, "meld", GREAT), 380)

    def test_400_ranks(self):
        # Each third rank makes a link, and there are 134 of them below 400.
        self.same([growth(THIRDS, "meld"), links_bound(THIRDS, "meld")], [(1, 3), None])
        for made in (1, 2, 3, 50, 133, 134):
            self.same(least_keys_for(THIRDS, "meld", made), 2 * sum(8 ** at for at in range(made)))
        row, deed = busy_deed(THIRDS, "meld", 134)
        self.same([len(row), deed == ("meld", row), links(THIRDS, row, deed)], [400, True, 134])
        for made in (135, 136, 200):
            self.same([least_keys_for(THIRDS, "meld", made), busy_deed(THIRDS, "meld", made)], [None, None])
        self.same([most_links(THIRDS, "meld", GREAT), 2 * sum(8 ** at for at in range(67)) < GREAT < 2 * sum(8 ** at for at in range(68))], [67, True])

    def test_what_is_carried_beyond_400_ranks(self):
        # A second tree comes at the highest rank only, and links are made there and above.
        book = Book.from_lines("leaf a", "kind a a+a", "first s", "ends e", "read s 0 x", "read x 0 y", "read y 0 x", "read y a+a+a e", *STARTS,
                               "page m a+a+a+a+a+a to a+a then n", "page n a+a to a then m")
        self.same([links_bound(book, "meld"), growth(book, "meld")], [3, (0, 1)])
        self.same([least_keys_for(book, "meld", 3), links(book, *busy_deed(book, "meld", 3))], [2 * 3 * 4, 3])

    def test_digits_of_many_kinds(self):
        self.same([links_bound(SHORT, kind) for kind in DEEDS], [2, 2, 2])
        self.same([links_bound(EVEN, kind) for kind in DEEDS], [0, 0, 0])

    def test_no_deeds(self):
        for keys in (0, 1, 10 ** 20):
            self.same([most_links(NOTHING, "put", keys), most_links(NOTHING, "meld", keys), most_links(NOTHING, "take", keys)], [0, 0, None])
        self.same([links_bound(NOTHING, kind) for kind in DEEDS], [0, 0, 0])
        self.same([growth(NOTHING, kind) for kind in DEEDS], [(0, 1)] * 3)
        self.same([least_keys_for(NOTHING, kind, 0) for kind in DEEDS], [0, 0, None])
        self.same([busy_deed(NOTHING, kind, 0) for kind in DEEDS], [((), ("put",)), ((), ("meld", ())), None])
        self.same([most_links(BINOMIAL, "take", 0), most_links(BINOMIAL, "take", 1), least_keys_for(BINOMIAL, "take", 0)], [None, 0, 1])

    def test_deeds_that_fail_count(self):
        self.same([links(LESS, read_row("a a"), ("meld", read_row("a a"))), least_keys_for(LESS, "meld", 1), most_links(LESS, "meld", 2)], [1, 2, 1])
        self.same([most_links(GUIDED, "meld", 10), links_bound(GUIDED, "meld"), most_links(GUIDED, "put", 1)], [0, 0, 1])

    def test_more_digits_or_fewer_pages_do_not_mean_fewer_links(self):
        more = GUIDED.with_line("read n a+a n")
        self.assertGreaterEqual(links_bound(more, "put"), links_bound(GUIDED, "put"))
        less = HYPER.with_line("page m a+a to a then m")
        still = less.with_line("page m a to 0 then still")
        self.same([least_keys_for(less, "put", 2) > least_keys_for(still, "put", 1), links_bound(LESS, "meld") is None], [True, True])

    def test_other_names(self):
        for book in (*FEW, *DRAWN[:10]):
            other = renamed_book(book, states={name: "q" + name for name in book.reader.states})
            for kind in DEEDS:
                self.same([growth(other, kind), links_bound(other, kind), least_keys_for(other, kind, 2), most_links(other, kind, 100)],
                          [growth(book, kind), links_bound(book, kind), least_keys_for(book, kind, 2), most_links(book, kind, 100)])


class ErrorsTest(Case):
    def test_no_book(self):
        for call, more in ((most_links, (5,)), (least_keys_for, (5,)), (busy_deed, (5,)), (links_bound, ()), (growth, ())):
            wrong_books(self, call, "put", *more)

    def test_no_kind_of_deeds(self):
        for call, more in ((most_links, (5,)), (least_keys_for, (5,)), (busy_deed, (5,)), (links_bound, ()), (growth, ())):
            wrong_kinds(self, call, *more)

    def test_numbers(self):
        for value in NO_COUNTS:
            for call in (most_links, least_keys_for, busy_deed):
                for book, kind in ((BINOMIAL, "put"), (TOO_GREAT_BOOK, "meld")):
                    with self.assertRaises(InvalidNumber) as caught:
                        call(book, kind, value)
                    self.assertIs(caught.exception.value, value)
        for value in (201, 10 ** 59, GREAT):
            for call in (least_keys_for, busy_deed):
                self.refused_with(InvalidNumber, "value", value, call, BINOMIAL, "put", value)
                self.refused_with(InvalidNumber, "value", value, call, TOO_GREAT_BOOK, "meld", value)
        for value in WRONG_KINDS:
            self.refused(InvalidOperation, least_keys_for, BINOMIAL, value, 201)

    def test_too_many_stands(self):
        for call, more in ((most_links, (5,)), (least_keys_for, (5,)), (busy_deed, (200,)), (links_bound, ()), (growth, ())):
            self.refused_with(TooMany, "limit", 20000, call, TOO_GREAT_BOOK, "meld", *more)
        self.same([links_bound(TOO_GREAT_BOOK, "put"), most_links(TOO_GREAT_BOOK, "take", 5) is None], [None, False])
