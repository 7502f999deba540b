"""Deeds on rows: [0.4], [0.5], [0.12], [0.13], [0.14], [0.20], [0.21] and stage 9."""

import itertools
import random

import linkbooks.deeds.rows as module
from linkbooks.base.rows import added, keys_of, read_row, trees_of, trimmed
from linkbooks.book.books import Book
from linkbooks.deeds.rows import each_take, is_deed, is_done, links, new_row, reach, steps
from linkbooks.errors import InvalidBook, InvalidOperation, InvalidRow
from tests.books import BOOKS, EVEN, FORKED, FULL, HYPER, MIXED, NOTHING, SHORT, TERNARY, TURNS, rows_up_to
from tests.helper import BINOMIAL, DEEP, GUIDED, STRANGE, TOO_GREAT, Case
from tests.machines import gone, makings_of
from tests.test_count import in_base
from tests.test_ranks import ways
from tests.test_rows import row_of

A = ("a",)
CALLS = (new_row, is_done, steps, links, reach)


def few_rows(book, keys=16, many=40):
    """Right rows with few keys, of all numbers of keys."""
    rows = [row for each in rows_up_to(book, keys).values() for row in each]
    return rows[:many]


def takes_in(book, row):
    """All takes in a row, from all ways to trees of its ranks."""
    found = []
    for rank, digit in enumerate(row):
        if digit:
            found += [("take", rank, way) for way in sorted(ways(book.kinds, rank)) if way[-1] in digit]
    return found


def rows_of(book, row, deed):
    """The rows that are added for a deed, and what is carried, by the lines of the book."""
    if deed[0] == "put":
        return [row], (book.kinds.leaf,)
    if deed[0] == "meld":
        return [row, deed[1]], ()
    rest, makings = [list(digit) for digit in row], makings_of(book.lines)
    rest[deed[1]].remove(deed[2][-1])
    children = [list(makings[above]) for above in deed[2][1:]]
    for digit, winner in zip(children, deed[2]):
        digit.remove(winner)
    return [rest, children], ()


def deeds_in(book, row, others):
    """All puts and takes in a row, and melds with these rows."""
    return [("put",), *[("meld", other) for other in others], *takes_in(book, row)]


def samples():
    """Books with right rows and deeds in them, and what a machine made by the tests comes to."""
    for book in BOOKS:
        rows = few_rows(book)
        for row in rows:
            for deed in deeds_in(book, row, rows[:12] + rows[-3:]):
                added_rows, carried = rows_of(book, row, deed)
                yield book, row, deed, gone(book.lines, book.starts[deed[0]], added_rows, carried)


class InterfaceTest(Case):
    def test_functions_are_defined_here(self):
        for call in CALLS:
            self.signature(call, "(book, row, deed)")
        self.signature(is_deed, "(book, row, value)")
        self.signature(each_take, "(book, row)")
        self.defined_in(module, "is_deed", "new_row", "is_done", "steps", "links", "reach", "each_take")

    def test_examples(self):
        row = read_row("a a 0 a")
        found = [new_row(BINOMIAL, row, ("put",)), links(BINOMIAL, row, ("put",)), new_row(GUIDED, read_row("0 a a+a"), ("put",))]
        self.same(found, [((), (), A, A), 2, (A, A, (), A)])
        found = [list(each_take(BINOMIAL, read_row("a a"))), new_row(BINOMIAL, read_row("a a"), ("take", 1, ("a", "a")))]
        self.same(found, [[("take", 0, A), ("take", 1, ("a", "a"))], ((), A)])
        less = BINOMIAL.without("page m a+a+a to a then m")
        found = [new_row(BINOMIAL, read_row("a a"), ("meld", row)), is_done(less, read_row("a a"), ("meld", read_row("a a")))]
        self.same(found, [((), A, A, A), False])


class ByForceTest(Case):
    def test_against_a_machine_made_here(self):
        kinds_of_deeds, outcomes = set(), set()
        for book, row, deed, (new, gone_steps) in samples():
            self.same(is_deed(book, row, deed), True)
            self.same([new_row(book, row, deed), steps(book, row, deed)], [new, gone_steps])
            self.same(is_done(book, row, deed), book.is_right(new))
            self.same(links(book, row, deed), sum(len(made) for _, made, _ in gone_steps))
            reached = 0
            for rank, (pool, made, _) in enumerate(gone_steps):
                if made or pool != (row[rank] if rank < len(row) else ()):
                    reached = rank + 1
            self.same(reach(book, row, deed), reached)
            kinds_of_deeds.add(deed[0])
            outcomes.add((deed[0], is_done(book, row, deed)))
        self.same([len(kinds_of_deeds), len(outcomes)], [3, 6])

    def test_keys_stay_as_many(self):
        for book, row, deed, (new, _) in samples():
            keys = keys_of(book.kinds, row)
            wanted = {"put": keys + 1, "take": keys - 1}.get(deed[0])
            wanted = keys + keys_of(book.kinds, deed[1]) if wanted is None else wanted
            self.same(keys_of(book.kinds, new), wanted)

    def test_links_take_trees_away(self):
        for book, row, deed, (new, gone_steps) in samples():
            if deed[0] == "meld":
                parts = sum(len(book.kinds[name]) - 1 for _, made, _ in gone_steps for name in made)
                self.same(trees_of(new), trees_of(row) + trees_of(deed[1]) - parts)

    def test_all_takes(self):
        for book in BOOKS:
            for row in few_rows(book, 40, 60):
                wanted = takes_in(book, row)
                self.same([list(each_take(book, row)), wanted], [wanted, sorted(wanted)])

    def test_a_put_is_a_meld_with_one_leaf(self):
        for book in BOOKS:
            leaf = (book.kinds.leaf,)
            if book.starts["put"] == book.starts["meld"] and book.is_right((leaf,)):
                for row in few_rows(book):
                    for meld in ((row, ("meld", (leaf,))), ((leaf,), ("meld", row))):
                        self.same(new_row(book, *meld), new_row(book, row, ("put",)))

    def test_which_row_comes_first_does_not_matter(self):
        for book in BOOKS:
            for one, other in itertools.combinations(few_rows(book, many=15), 2):
                self.same(new_row(book, one, ("meld", other)), new_row(book, other, ("meld", one)))

    def test_a_page_that_no_deed_meets_can_go(self):
        more = BINOMIAL.with_line("page q a+a to 0 then q").with_line("page m a+a+a+a to a+a then m")
        for row in few_rows(BINOMIAL):
            for deed in deeds_in(BINOMIAL, row, few_rows(BINOMIAL)):
                self.same(steps(more, row, deed), steps(BINOMIAL, row, deed))

    def test_each_deed_has_its_own_note(self):
        book = GUIDED.with_line("start take p").with_line("start put q").with_line("page q a to 0 then z").with_line("start meld k")
        self.same([steps(book, (A,), ("take", 0, A)), steps(book, (), ("put",)), steps(book, (), ("meld", ((), A)))],
                  [(((), (), "p"),), ((A, (), "z"),), (((), (), "e"), (A, (), "e"))])


class KnownTest(Case):
    def test_without_the_last_tree(self):
        # The row is empty, but its digits are gone through.
        self.same([new_row(BINOMIAL, (A,), ("take", 0, A)), steps(BINOMIAL, (A,), ("take", 0, A))], [(), (((), (), "m"),)])
        self.same(steps(BINOMIAL, ((), A), ("take", 1, A * 2)), ((A, (), "m"), ((), (), "m")))
        self.same([links(BINOMIAL, (A,), ("take", 0, A)), reach(BINOMIAL, (A,), ("take", 0, A))], [0, 1])

    def test_empty_rows(self):
        self.same([new_row(BINOMIAL, (), ("meld", ())), steps(BINOMIAL, (), ("meld", ())), reach(BINOMIAL, (), ("meld", ()))], [(), (), 0])
        self.same([new_row(BINOMIAL, (), ("put",)), steps(BINOMIAL, (), ("put",)), reach(BINOMIAL, (), ("put",))], [(A,), ((A, (), "m"),), 1])
        self.same([is_done(NOTHING, (), ("put",)), is_done(NOTHING, (), ("meld", ())), list(each_take(NOTHING, ()))], [False, True, []])

    def test_reach(self):
        self.same([reach(BINOMIAL, read_row("a a 0 a"), ("put",)), reach(BINOMIAL, read_row("a a 0 a"), ("meld", ())),
                   reach(BINOMIAL, read_row("0 0 0 a"), ("meld", (A,))), reach(BINOMIAL, (A,), ("meld", read_row("0 0 0 a")))], [3, 0, 1, 4])
        self.same(reach(BINOMIAL, read_row("0 a a"), ("take", 1, ("a", "a"))), 2)
        # Something is made of a pool that is equal to the digit.
        book = HYPER.with_line("page m a+a to a then m")
        self.same([reach(book, read_row("0 a+a"), ("meld", ())), links(book, read_row("0 a+a"), ("meld", ()))], [3, 1])

    def test_reach_where_the_pool_is_as_before(self):
        # Without the tree, and with the one carried, rank 1 looks like before.
        row = read_row("a a")
        self.same([steps(BINOMIAL, row, ("take", 1, ("a", "a"))), reach(BINOMIAL, row, ("take", 1, ("a", "a")))],
                  [((("a", "a"), A, "m"), (A, (), "m")), 1])

    def test_a_guided_put_makes_at_most_one_link(self):
        for row in few_rows(GUIDED, 60, 400):
            self.same([is_done(GUIDED, row, ("put",)), links(GUIDED, row, ("put",)) <= 1], [True, True])

    def test_statements_that_are_not_true(self):
        # A book that is good for puts is not good for melds for that; and puts alone do not come to all right rows.
        self.same(is_done(GUIDED, read_row("a a"), ("meld", read_row("a a"))), False)
        row = ()
        for _ in range(4):
            row = new_row(GUIDED, row, ("put",))
        self.same([row, GUIDED.is_right(read_row("0 0 a")), GUIDED.is_right(row)], [read_row("0 a+a"), True, True])

    def test_good_for_one_key_each_is_not_good_for_more(self):
        less = BINOMIAL.without("page m a+a+a to a then m")
        ones = [row for row in rows_up_to(less, 1)[1]]
        self.same([is_done(less, one, ("meld", other)) for one in ones for other in ones], [True])
        self.same(is_done(less, read_row("a a"), ("meld", read_row("a a"))), False)

    def test_rows_cannot_be_melded_in_any_order(self):
        rows = few_rows(MIXED, 12)
        parted = 0
        for one, other, third in itertools.product(rows[:14], repeat=3):
            left, right = new_row(MIXED, one, ("meld", other)), new_row(MIXED, other, ("meld", third))
            if MIXED.is_right(left) and MIXED.is_right(right):
                parted += new_row(MIXED, left, ("meld", third)) != new_row(MIXED, one, ("meld", right))
        self.assertGreater(parted, 0)

    def test_less_pages_do_not_mean_fewer_links(self):
        less = HYPER.with_line("page m a+a to a then m")
        more = less.with_line("page m a to 0 then still")
        row = read_row("a a+a")
        self.same([links(more, row, ("meld", ())), links(less, row, ("meld", ()))], [0, 1])

    def test_melds_and_children_do_not_make_takes_good(self):
        # Melds go as in binary numbers, and children are right rows, but a take begins with a note without pages.
        book = BINOMIAL.with_line("start take t")
        children = book.ranks.children_of(("a", "a"))
        self.same([book.is_right(children), is_done(book, (A,), ("meld", children))], [True, True])
        self.same([new_row(book, (A, A), ("take", 1, ("a", "a"))), is_done(book, (A, A), ("take", 1, ("a", "a")))], [(("a", "a"),), False])

    def test_great_rows(self):
        chance = random.Random(9)
        for _ in range(20):
            one, other = chance.randrange(10 ** 99, 10 ** 100), chance.randrange(10 ** 99, 10 ** 100)
            for book, base in ((BINOMIAL, 2), (TERNARY, 3)):
                row = in_base(one, base)
                self.same(new_row(book, row, ("put",)), in_base(one + 1, base))
                self.same(new_row(book, row, ("meld", in_base(other, base))), in_base(one + other, base))
                self.same(is_done(book, row, ("meld", row)), True)
            rank = chance.choice([rank for rank, digit in enumerate(in_base(one, 2)) if digit])
            self.same(new_row(BINOMIAL, in_base(one, 2), ("take", rank, A * (rank + 1))), in_base(one - 1, 2))
        ones = (A,) * 333
        self.same([links(BINOMIAL, ones, ("put",)), reach(BINOMIAL, ones, ("put",)), links(BINOMIAL, ones, ("meld", ones))], [333, 334, 333])

    def test_400_and_401_ranks(self):
        row = row_of(400)
        self.same([new_row(BINOMIAL, row, ("put",)), is_done(BINOMIAL, row, ("take", 399, A * 400))], [(A, *row[1:]), True])
        self.same(new_row(BINOMIAL, row, ("take", 399, A * 400)), (A,) * 399)
        self.same(new_row(BINOMIAL, (A,), ("meld", row)), (A, *row[1:]))
        self.same([list(each_take(BINOMIAL, row)), is_deed(BINOMIAL, row, ("take", 400, A * 401))], [[("take", 399, A * 400)], False])
        self.same([is_deed(BINOMIAL, (A,), ("meld", row_of(401))), is_deed(BINOMIAL, (A,), ("meld", (A,) * 401))], [False, False])
        for call in CALLS:
            self.refused(InvalidRow, call, BINOMIAL, row_of(401), ("put",))
            self.refused(InvalidOperation, call, BINOMIAL, row, ("meld", row_of(401)))
        self.refused(InvalidRow, is_deed, BINOMIAL, row_of(401), ("put",))

    def test_very_many_takes(self):
        row = ((),) * 300 + (A,)
        found = []
        for take in each_take(FORKED, row):
            found.append(take)
            if len(found) == 5:
                break
        self.same(found, sorted(found))
        self.same([is_deed(FORKED, row, take) for take in found], [True] * 5)
        self.same(found[0], ("take", 300, ("a", "b") * 150 + A))
        self.same(found[1], ("take", 300, ("a", "b") * 149 + ("a", "c", "a")))


class WrongTest(Case):
    def near(self, row):
        """Values that are near a deed in a row like 'a a 0 a', and are none."""
        other = read_row("a 0 a")
        return (
            "put", ("put", ()), ("put", None), ["put"], ("puts",), ("Put",), (("put",),), ("put", "put"), (), ("",), (None,), (True,),
            ("meld",), ("meld", None), ("meld", "a 0 a"), ("meld", list(other)), ["meld", other], ("meld", other, ()), ("melds", other),
            ("meld", (("a", "a"),)), ("meld", (A, ())), ("meld", ((),)), ("meld", (["a"],)), ("meld", (("b",),)), (other, "meld"), other,
            ("take",), ("take", 0), ("take", 0, A, ()), ["take", 0, A], ("take", 0, ["a"]), ("take", 0, "a"), ("take", "0", A),
            ("take", False, A), ("take", True, ("a", "a")), ("take", -1, A), ("take", -1, A * 4), ("take", None, A), ("take", 0, ()),
            ("take", 0, ("a", "a")), ("take", 1, A), ("take", 1, ("a", "a", "a")), ("take", 1, ("a", "b")), ("take", 1, ("b", "a")),
            ("take", 2, A * 3), ("take", 3, A * 3), ("take", 3, A * 5), ("take", 4, A * 5), ("take", 0, ("b",)), ("take", 0, (None,)),
            ("take", TOO_GREAT, A), ("take", 10 ** 59, A), ("take", 3, ("a", "a", "a", None)), ("taken", 0, A), (0, "take", A),
            ("take", 1, (("a", "a"),)), ("take", 1, ("a", ["a"])), {"put": ()}, ("get", 0, A), ("get", other), ("put", 0, A),
            ("meld", 0, A), ("take", other), DEEP,
        )

    def test_values_near_a_deed(self):
        row = read_row("a a 0 a")
        for value in (*self.near(row), *STRANGE):
            self.same(is_deed(BINOMIAL, row, value), False)
            for call in CALLS:
                self.refused(InvalidOperation, call, BINOMIAL, row, value)
        for deed in (("put",), ("meld", ()), ("meld", row), ("take", 0, A), ("take", 1, A * 2), ("take", 3, A * 4)):
            self.same(is_deed(BINOMIAL, row, deed), True)

    def test_deeds_for_just_some_rows(self):
        for book in (EVEN, FULL, TURNS, MIXED, SHORT, FORKED):
            rows = few_rows(book, 30, 60)
            takes = sorted({take for row in rows for take in takes_in(book, row)})
            for row in rows:
                inside = takes_in(book, row)
                for take in takes:
                    self.same(is_deed(book, row, take), take in inside)

    def test_ways_that_lead_to_no_tree(self):
        row = read_row("0 c 0 c")
        self.same(FORKED.is_right(row), True)
        for way in (("a", "c", "a", "b"), ("a", "b", "a", "a"), ("a", "a", "a", "c"), ("c", "a", "c", "c"), ("b", "c", "a", "c"), ("a", "b", "c", "c")):
            self.same(is_deed(FORKED, row, ("take", 3, way)), False)
        for way in (("a", "b", "a", "c"), ("a", "c", "a", "c")):
            self.same(is_deed(FORKED, row, ("take", 3, way)), True)

    def test_no_book(self):
        for value in STRANGE:
            if not isinstance(value, Book):
                for call in (*CALLS, is_deed):
                    self.refused(InvalidBook, call, value, (A,), ("put",))
                    self.refused(InvalidBook, call, value, None, None)
                self.refused(InvalidBook, lambda: next(each_take(value, (A,))))
                self.refused(InvalidBook, lambda: next(each_take(value, None)))

    def test_rows_that_are_not_right(self):
        for value in (*STRANGE, (("a", "a"),), (A, ()), ((),), [A], (["a"],), (("b",),), "a"):
            if not (isinstance(value, tuple) and value == ()):
                for call in (*CALLS, is_deed):
                    self.refused(InvalidRow, call, BINOMIAL, value, ("put",))
                    self.refused(InvalidRow, call, BINOMIAL, value, None)
                self.refused(InvalidRow, lambda: next(each_take(BINOMIAL, value)))
        self.refused(InvalidRow, new_row, TURNS, (A, A), ("put",))

    def test_generators_raise_when_they_are_asked(self):
        each_take(None, None)
        each_take(BINOMIAL, (("a", "a"),))
        with self.assertRaises(StopIteration):
            next(each_take(BINOMIAL, ()))

    def test_nothing_is_changed(self):
        row, other = read_row("a a 0 a"), read_row("a 0 a")
        for deed in (("put",), ("meld", other), ("take", 3, A * 4)):
            first = [call(BINOMIAL, row, deed) for call in CALLS]
            self.same([call(BINOMIAL, row, deed) for call in CALLS], first)
        self.same([row, other], [read_row("a a 0 a"), read_row("a 0 a")])

    def test_rows_can_be_written_as_sums(self):
        # Without a page for it, a pool is what the rows have there.
        book = HYPER.without("page m a+a+a to a then m").without("page m a+a+a+a to a then m")
        for one, other in itertools.product(few_rows(book, 6), repeat=2):
            if all(len(digit) < 5 for digit in added(one, other)):
                self.same(new_row(book, one, ("meld", other)), trimmed(added(one, other)))
