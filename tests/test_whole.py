"""The whole program: [0.12] to [0.21], and stages 8 to 18 beside each other."""

import random

from linkbooks.base.rows import keys_of, read_row
from linkbooks.book.books import DEEDS, Book
from linkbooks.count.rows import count_right, each_right
from linkbooks.decide.links import growth, least_keys_for, links_bound, most_links
from linkbooks.decide.papers import is_good, is_paper, least_bad, paper, reads_of, realize
from linkbooks.decide.plans import Plan, are_alike, parting_rows
from linkbooks.decide.tables import Table, is_final, moves, start_of
from linkbooks.decide.uses import lacking, met, parting_deed, spared, unmet
from linkbooks.deeds.rows import each_take, is_done, links, new_row, steps
from linkbooks.errors import LinkError, Refused, Spoilt
from linkbooks.heaps.heaps import Heap
from linkbooks.text.shell import Shell
from linkbooks.text.texts import read_book, read_deed, read_paper, read_stand, write_book, write_deed, write_paper, write_stand
from linkbooks.use.bench import Bench
from tests.books import FULL, HYPER, TERNARY, TURNS
from tests.deciding import FEW, LESS, drawn_books
from tests.helper import BINOMIAL, GUIDED, Case
from tests.test_heaps import tree_of

A = ("a",)
DRAWN = drawn_books(67, 40)


def demanded(book, pledge):
    """Whether a bench takes a pledge."""
    try:
        Bench(book).demand(pledge)
    except Refused:
        return False
    return True


def small_deeds(book, kind, most=7):
    """Deeds with few keys, by the rows that the package counts."""
    rows = [row for keys in range(most + 1) for row in each_right(book, keys)]
    if kind == "put":
        return [(row, ("put",)) for row in rows]
    if kind == "meld":
        return [(row, ("meld", other)) for row in rows for other in rows if keys_of(book.kinds, row) + keys_of(book.kinds, other) <= most]
    return [(row, take) for row in rows for take in each_take(book, row)]


class OneAnswerTest(Case):
    def test_good_or_bad_in_all_ways(self):
        found = set()
        for book in (*FEW, *DRAWN):
            shell = Shell(write_book(book))
            for kind in DEEDS:
                good = is_good(book, kind)
                table, told, pair = Table(book, kind), paper(book, kind), least_bad(book, kind)
                self.same([table.is_good, table.wrong == (), told[0], pair is None], [good, good, "good" if good else "bad", good])
                self.same([is_paper(book, kind, told), is_paper(book, kind, ("good", table.stands)), is_paper(book, kind, read_paper(write_paper(told)))], [True, good, True])
                self.same([demanded(book, ("good", kind)), shell(f"good {kind}")], [good, "yes" if good else "no"])
                self.same(shell(f"demand good {kind}"), "nothing" if good else f"refused good {kind}")
                self.same(all(is_done(book, *each) for each in small_deeds(book, kind)) or not good, True)
                if pair is not None:
                    row, deed = pair
                    self.same([is_done(book, row, deed), is_paper(book, kind, ("bad", row, deed)), demanded(book, ("done", row, deed))], [False, True, False])
                    self.same(shell("do " + write_deed(deed) + " in " + (" ".join("+".join(digit) or "0" for digit in row) or "-")) != "what", True)
                found.add((kind, good))
        self.same(len(found), 6)

    def test_bounds_in_all_ways(self):
        for book in (*FEW, *DRAWN[:20]):
            shell = Shell(write_book(book))
            for kind in DEEDS:
                bound = links_bound(book, kind)
                self.same([bound is None, shell(f"most {kind}")], [growth(book, kind) != (0, 1), "none" if bound is None else str(bound)])
                self.same([demanded(book, ("links", kind, most)) for most in range(4)], [bound is not None and bound <= most for most in range(4)])
                if bound is not None:
                    self.same([least_keys_for(book, kind, bound + 1), shell(f"links {kind} {bound + 1}")], [None, "none"])

    def test_plans_in_all_ways(self):
        for book in (BINOMIAL, LESS, GUIDED, HYPER, FULL, TERNARY, *DRAWN[:10]):
            shell = Shell(write_book(book))
            for one, other in (("A'", "(A+B)"), ("(A'+B)", "(A+B)'"), ("(A+B)", "(B+A)"), ("((A+B)+A)", "(A+(A+B))"), ("A''", "A'")):
                rows = parting_rows(book, Plan(one), Plan(other))
                self.same([are_alike(book, Plan(one), Plan(other)), demanded(book, ("alike", one, other)), shell(f"alike {one} {other}") == "yes"], [rows is None] * 3)

    def test_a_put_alike_a_plan(self):
        # A put is a meld with the row of one leaf, if this row is right and both begin with one note.
        for book in (*FEW, *DRAWN):
            leaf = ((book.kinds.leaf,),)
            if book.is_right(leaf) and book.starts["put"] == book.starts["meld"]:
                for row, _ in small_deeds(book, "put"):
                    self.same(new_row(book, row, ("put",)), new_row(book, row, ("meld", leaf)))
                self.same(is_good(book, "put") or not is_good(book, "meld"), True)

    def test_what_no_deed_meets_can_go(self):
        for book in (*FEW, *DRAWN):
            rest = spared(book)
            self.same([is_good(rest, kind) for kind in DEEDS], [is_good(book, kind) for kind in DEEDS])
            self.same([links_bound(rest, kind) for kind in DEEDS], [links_bound(book, kind) for kind in DEEDS])
            for line in unmet(book)[:2]:
                less = book.without(line)
                self.same([Table(less, kind).stands for kind in DEEDS], [Table(book, kind).stands for kind in DEEDS])
                self.same([parting_deed(book, less, kind) for kind in DEEDS], [None] * 3)


class OneCourseTest(Case):
    def through_stands(self, book, row, deed):
        """The final stand to which the moves of a deed lead."""
        stand = start_of(book, deed[0])
        table = Table(book, deed[0])
        for read in reads_of(book, row, deed):
            stand = dict(moves(book, deed[0], stand))[read]
            self.assertIn(stand, table)
        self.same(is_final(book, deed[0], stand), True)
        return stand

    def test_rows_and_stands(self):
        for book in (*FEW, *DRAWN):
            for kind in DEEDS:
                for row, deed in small_deeds(book, kind, 6)[:25]:
                    stand = self.through_stands(book, row, deed)
                    self.same([stand[5], realize(book, kind, reads_of(book, row, deed))], [is_done(book, row, deed), (row, deed)])

    def on_heap(self, heap, deed, call):
        """A deed on a heap, on its row and along stands: the new heap, or None if it fails."""
        book, row = heap.book, heap.outline
        done = is_done(book, row, deed)
        self.same(self.through_stands(book, row, deed)[5], done)
        bound = links_bound(book, deed[0])
        self.assertTrue(bound is None or links(book, row, deed) <= bound)
        if done:
            new = call()
            self.same(new.outline, new_row(book, row, deed))
            return new
        self.refused_with(Spoilt, "row", new_row(book, row, deed), call)
        self.same([is_good(book, deed[0]), demanded(book, ("good", deed[0]))], [False, False])
        return None

    def test_histories_of_heaps(self):
        chance = random.Random(71)
        done = set()
        for book in (BINOMIAL, GUIDED, LESS, HYPER, FULL, TURNS, TERNARY, *DRAWN[:8]):
            heaps = [Heap(book)]
            for _ in range(25):
                heap, other = chance.choice(heaps), chance.choice(heaps)
                kind = chance.choice(DEEDS)
                if kind == "put":
                    new = self.on_heap(heap, ("put",), lambda: heap.put(chance.randrange(9)))
                elif kind == "meld":
                    new = self.on_heap(heap, ("meld", other.outline), lambda: heap.meld(other))
                else:
                    new = self.on_heap(heap, heap.next_take, heap.take) if heap else None
                done.add((kind, new is not None))
                if new is not None and len(new) < 40:
                    heaps.append(new)
        self.same(len(done), 6)

    def test_good_books_spoil_no_heap(self):
        keys = tuple((key * 37) % 101 for key in range(100))
        for book in (BINOMIAL, HYPER, TERNARY):
            self.same([is_good(book, kind) for kind in DEEDS], [True] * 3)
            heap = Heap(book, keys)
            self.same([list(heap.drained()), heap.meld(heap).content], [sorted(keys), tuple(sorted(keys * 2))])

    def test_takes_of_each_tree(self):
        # The tree that is taken is just the first one with the least key, so give this key to each tree in turn.
        for book in (LESS, FULL, BINOMIAL):
            for keys in range(1, 8):
                for row in each_right(book, keys):
                    for take in each_take(book, row):
                        trees = tuple(tuple(tree_of(book.kinds, [0 if rank == take[1] else 5] + [7] * ((1 << rank) - 1)) for _ in digit) for rank, digit in enumerate(row))
                        self.on_heap(Heap.of_trees(book, trees), take, Heap.of_trees(book, trees).take)


class WithinTest(Case):
    def test_small_deeds_are_within_what_is_told_for_all(self):
        for book in (*FEW, *DRAWN):
            for kind in DEEDS:
                stands, lines, bound = Table(book, kind).stands, met(book, kind), links_bound(book, kind)
                least = {}
                for row, deed in small_deeds(book, kind):
                    keys = keys_of(book.kinds, row) + (keys_of(book.kinds, deed[1]) if kind == "meld" else 0)
                    made = links(book, row, deed)
                    self.assertTrue(bound is None or made <= bound)
                    self.assertLessEqual(made, most_links(book, kind, keys))
                    least[made] = min(least.get(made, keys), keys)
                    note = book.starts[kind]
                    for pool, _, after in steps(book, row, deed):
                        if (note, pool) in book.machine:
                            self.assertIn(book.machine[note, pool].line, lines)
                        note = after
                for made, keys in least.items():
                    self.assertLessEqual(least_keys_for(book, kind, made), keys)
                self.assertTrue(stands)

    def test_what_is_reached(self):
        # Books so small that deeds with few keys come to all stands, pages and links.
        for book, most, kinds in ((BINOMIAL, 48, DEEDS), (LESS, 48, DEEDS), (GUIDED, 30, DEEDS), (FULL, 24, ("put", "take"))):
            for kind in kinds:
                table, stands, lines, made = Table(book, kind), set(), set(), set()
                for row, deed in small_deeds(book, kind, most):
                    stand, note = start_of(book, kind), book.starts[kind]
                    for read, (pool, _, after) in zip(reads_of(book, row, deed), steps(book, row, deed)):
                        stands.add(stand)
                        stand = next(move[1] for move in moves(book, kind, stand) if move[0] == read)
                        if (note, pool) in book.machine:
                            lines.add(book.machine[note, pool].line)
                        note = after
                    stands.add(stand)
                    made.add(links(book, row, deed))
                self.same([tuple(sorted(stands)), tuple(sorted(lines))], [table.stands, met(book, kind)])
                if links_bound(book, kind) is not None:
                    self.same(max(made), links_bound(book, kind))

    def test_a_page_for_what_is_lacking_makes_it_better(self):
        self.same(lacking(LESS, "meld"), (("m", ("a", "a", "a")),))
        book = LESS
        for note, pool in lacking(LESS, "meld"):
            book = book.with_line(f"page {note} {'+'.join(pool)} to a then {note}")
        self.same([book == BINOMIAL, [is_good(book, kind) for kind in DEEDS]], [True, [True] * 3])
        for kind in DEEDS:
            for book in (*FEW, *DRAWN):
                self.assertTrue(not lacking(book, kind) or not is_good(book, kind) or any(stand[4] == "" for stand in Table(book, kind)))

    def test_rows_that_are_counted_are_reached_by_melds(self):
        # In binary numbers each row is what a put comes to.
        for keys in range(1, 40):
            self.same([count_right(BINOMIAL, keys), new_row(BINOMIAL, next(each_right(BINOMIAL, keys - 1)), ("put",))], [1, next(each_right(BINOMIAL, keys))])


class TextsTest(Case):
    def test_all_there_and_back(self):
        for book in (*FEW, *DRAWN[:15]):
            self.same(read_book(write_book(book)) == book, True)
            for kind in DEEDS:
                self.same([read_stand(write_stand(stand)) for stand in Table(book, kind)], list(Table(book, kind)))
                for row, deed in small_deeds(book, kind, 4):
                    self.same(read_deed(write_deed(deed)), deed)

    def test_a_bench_beside_a_shell(self):
        shell, bench = Shell(write_book(BINOMIAL)), Bench(BINOMIAL)
        for line in BINOMIAL.lines[4:]:
            for word in ("erase", "draw"):
                try:
                    getattr(bench, word)(line)
                except (LinkError, KeyError):
                    pass
                shell(f"{word} {line}")
                self.same([shell.bench() == bench, shell("lines")], [True, "; ".join(bench)])
        self.same([read_row(shell("do put in a a")), is_done(BINOMIAL, (A, A), ("put",))], [((), (), A), True])
        self.same(isinstance(bench.book, Book), True)
