"""Heaps: [0.2], [0.4], [0.14], [0.20], [11.1], [11.2] and stage 11."""

import itertools
import random

import linkbooks.heaps.heaps as module
from linkbooks.base.kinds import Kinds
from linkbooks.base.rows import read_row
from linkbooks.book.books import Book, renamed_book
from linkbooks.deeds.rows import is_deed, is_done, new_row
from linkbooks.errors import (
    EmptyHeap, InvalidBook, InvalidHeap, InvalidNumber, InvalidOperation, NothingToUndo, Spoilt, TooMany,
)
from linkbooks.heaps.heaps import Heap
from linkbooks.heaps.trees import Tree
from tests.books import ALONE, BOOKS, EVEN, FORKED, FULL, HYPER, MIXED, NOTHING, SHORT, TERNARY, TURNS
from tests.helper import BINOMIAL, BINOMIAL_LINES, GUIDED, STRANGE, TOO_GREAT, Case
from tests.models import after_meld, after_put, after_take, keys_in, place_of_least, plain, plain_heap, row_of_heap

A = ("a",)
LESS = BINOMIAL.without("page m a+a+a to a then m")
NO_INTEGERS = [value for value in STRANGE if type(value) is not int or abs(value) >= TOO_GREAT]
# What is carried up stays behind the trees that are there, and two kinds are made at one rank.
PAIRED = Book.from_lines(
    "leaf a", "kind a a+a", "kind b a+a+a", "first s", "ends o", *[f"read {state} {digit} o" for state in "soz" for digit in
                                                                  ("a", "b", "a+a", "a+b", "b+b", "a+a+b", "a+b+b")],
    "read s 0 z", "read o 0 z", "read z 0 z", "start put m", "start meld m", "start take m",
    "page m a+a+a to a then m", "page m a+a+a+a to a+a then m", "page m a+a+a+a+a to a+b then m", "page m a+a+a+b to b then m",
    "page m a+a+b+b to a then m", "page m a+a+a+a+b to a+a then m", "page m a+a+a+b+b to b then m")


def tree_of(kinds, keys):
    """A tree with these keys, as many as a power of two."""
    trees = [Tree(kinds, key) for key in keys]
    while len(trees) > 1:
        trees = [Tree.linked("a", (one, other)) for one, other in zip(trees[::2], trees[1::2])]
    return trees[0]


class InterfaceTest(Case):
    def test_constant(self):
        self.same(module.MAX_CONTENT, 5000)

    def test_class_defines_all(self):
        self.defined_in(module, "Heap")
        methods = {"of_trees": ["book", "trees"], "put": ["key"], "meld": ["other"], "take": [], "drained": []}
        self.methods_of(Heap, methods, ("book", "trees", "outline", "content", "least_key", "next_take"))
        self.assertIsInstance(vars(Heap)["of_trees"], classmethod)
        for name in ("__init__", "__contains__", "__len__", "__bool__", "__eq__", "__str__", "elder"):
            self.assertIn(name, vars(Heap))
        self.signature(Heap, "(book, content=())")
        self.signature(Heap.elder, "(self, *, many=1)")

    def test_examples(self):
        heap = Heap(BINOMIAL, (5, 3, 8, 1))
        self.same([str(heap), heap.outline, heap.least_key, heap.next_take, heap.elder().content, list(heap.drained())],
                  ["heap with 4 keys, 3 ranks", ((), (), A), 1, ("take", 2, ("a", "a", "a")), (3, 5, 8), [1, 3, 5, 8]])
        self.same([heap.take().outline, [tree.content for digit in heap.take().trees for tree in digit], heap.meld(heap).outline],
                  [(A, A), [(8,), (3, 5)], ((), (), (), A)])


class HistoryTest(Case):
    def agree(self, heap, model):
        """A heap is as the one that the test keeps."""
        keys = sorted(key for digit in model for tree in digit for key in keys_in(tree))
        self.same(plain_heap(heap), [list(digit) for digit in model])
        self.same([heap.content, len(heap), bool(heap), heap.outline], [tuple(keys), len(keys), bool(keys), row_of_heap(model)])
        self.same(heap.least_key, keys[0] if keys else None)
        self.same(str(heap), f"heap with {len(keys)} keys, {len(model)} ranks")
        if keys:
            rank, at = place_of_least(model)
            self.same(heap.next_take, ("take", rank, model[rank][at][0]))
            self.same(is_deed(heap.book, heap.outline, heap.next_take), True)
        else:
            self.same(heap.next_take, None)

    def done(self, heap, call, args, deed, model):
        """The new heap, if its row is right; if not, the heap is as it was, and the deed is refused with the new row."""
        row = row_of_heap(model)
        before = plain_heap(heap)
        self.same([new_row(heap.book, heap.outline, deed), is_done(heap.book, heap.outline, deed)], [row, heap.book.is_right(row)])
        if not heap.book.is_right(row):
            self.refused_with(Spoilt, "row", row, call, *args)
            self.same(plain_heap(heap), before)
            return None
        new = call(*args)
        self.same(plain_heap(heap), before)
        self.agree(new, model)
        self.assertEqual(new.elder(), heap)
        return new

    def put(self, heap, key):
        return self.done(heap, heap.put, (key,), ("put",), after_put(heap.book, plain_heap(heap), key))

    def meld(self, heap, other):
        return self.done(heap, heap.meld, (other,), ("meld", other.outline), after_meld(heap.book, plain_heap(heap), plain_heap(other)))

    def take(self, heap):
        if not heap:
            self.refused_with(EmptyHeap, "deed", "take", heap.take)
            return None
        return self.done(heap, heap.take, (), heap.next_take, after_take(heap.book, plain_heap(heap)))

    def history(self, chance, book, deeds):
        """Deeds by chance; how many of each kind are done and fail."""
        counts, heaps = {}, [Heap(book)]
        for _ in range(deeds):
            heap, other = chance.choice(heaps[-6:]), chance.choice(heaps)
            kind = chance.choice(("put", "put", "put", "meld", "take", "take"))
            if kind == "put":
                new = self.put(heap, chance.randrange(-2, 4))
            elif kind == "meld":
                new = self.meld(heap, chance.choice((heap, other)))
            else:
                new = self.take(heap)
            counts[kind, new is not None] = counts.get((kind, new is not None), 0) + 1
            if new is not None and len(new) < 120:
                heaps.append(new)
        return counts

    def test_histories(self):
        chance = random.Random(12)
        counts = {}
        for book in (*BOOKS, LESS, PAIRED):
            for key, many in self.history(chance, book, 220).items():
                counts[key] = counts.get(key, 0) + many
        for kind, done in itertools.product(("put", "meld", "take"), (True, False)):
            self.assertGreater(counts[kind, done], 20)

    def test_two_kinds_made_at_one_rank(self):
        chance = random.Random(15)
        heaps = [Heap(PAIRED)]
        for _ in range(600):
            new = self.meld(chance.choice(heaps), chance.choice(heaps)) if chance.randrange(3) == 0 else self.put(chance.choice(heaps), chance.randrange(9))
            if new is not None and len(new) < 90:
                heaps.append(new)
        kinds = {name for heap in heaps for digit in heap.outline for name in digit}
        self.same(kinds, {"a", "b"})
        for heap in heaps[::3]:
            self.take(heap)

    def test_long_histories(self):
        chance = random.Random(18)
        for book in (BINOMIAL, FULL, TERNARY):
            heap = Heap(book)
            for _ in range(300):
                new = self.take(heap) if heap and chance.randrange(4) == 0 else self.put(heap, chance.randrange(50))
                heap = new if new is not None else heap
            keys = list(heap.content)
            if book != FULL:
                self.same(list(heap.drained()), keys)

    def test_of_trees_goes_on(self):
        chance = random.Random(24)
        for book in (BINOMIAL, HYPER, GUIDED):
            for _ in range(30):
                row = chance.choice([read_row(text) for text in ("-", "a", "0 a", "a a", "0 0 a", "0 a a", "a 0 a")])
                trees = tuple(tuple(tree_of(book.kinds, [chance.randrange(4) for _ in range(1 << rank)]) for _ in digit) for rank, digit in enumerate(row))
                heap = Heap.of_trees(book, trees)
                self.agree(heap, plain_heap(heap))
                self.put(heap, 2)
                self.meld(heap, heap)
                self.take(heap)


class OrderTest(Case):
    def test_pool_has_the_own_trees_first(self):
        # All keys are equal, so the order tells the winner: the heap's own tree, then the other one, then what is carried.
        one, other = Heap(BINOMIAL, (1,)), Heap(BINOMIAL, (1, 2))
        pair = one.meld(Heap(BINOMIAL, (1,)))
        self.same(plain_heap(pair), [[], [(("a", "a"), 1, (((A, 1, ()),),))]])
        low = Heap.of_trees(BINOMIAL, ((), (tree_of(BINOMIAL.kinds, (1, 7)),)))
        high = Heap.of_trees(BINOMIAL, ((), (tree_of(BINOMIAL.kinds, (1, 9)),)))
        self.same([low.meld(high).trees[2][0].children[0][0].key, high.meld(low).trees[2][0].children[0][0].key], [7, 9])
        self.same([tree.key for tree in low.meld(high).trees[2][0].children[1][0].children[0]], [9])
        self.same(len(other.meld(one)), 3)

    def test_what_is_carried_comes_last(self):
        heap = Heap.of_trees(BINOMIAL, ((Tree(BINOMIAL.kinds, 1),), (tree_of(BINOMIAL.kinds, (1, 7)),)))
        new = heap.put(1)
        self.same([new.outline, new.trees[2][0].children[0][0].key, new.trees[2][0].children[1][0].children[0][0].key], [((), (), A), 7, 1])

    def test_least_key_of_several(self):
        kinds = BINOMIAL.kinds
        heap = Heap.of_trees(BINOMIAL, ((), (tree_of(kinds, (2, 3)),), (tree_of(kinds, (1, 5, 6, 7)),), (tree_of(kinds, range(1, 9)),)))
        self.same([heap.least_key, heap.next_take], [1, ("take", 2, A * 3)])
        wide = Heap.of_trees(HYPER, ((Tree(HYPER.kinds, 1), Tree(HYPER.kinds, 1)), (tree_of(kinds, (1, 2)), tree_of(kinds, (1, 9)))))
        self.same([wide.next_take, wide.take().next_take, wide.take().take().next_take], [("take", 0, A), ("take", 0, A), ("take", 1, A * 2)])
        self.same(wide.take().take().take().content, (1, 2, 9))
        self.same([tree.content for digit in wide.take().take().take().trees for tree in digit], [(2,), (1, 9)])

    def test_trees_of_one_kind_keep_their_order(self):
        kinds = HYPER.kinds
        first, second = Tree(kinds, 8), Tree(kinds, 3)
        heap = Heap.of_trees(HYPER, ((first, second),))
        other = Heap.of_trees(HYPER, ((second, first),))
        self.same([[tree.key for tree in heap.trees[0]], [tree.key for tree in other.trees[0]], heap == other, heap.content == other.content],
                  [[8, 3], [3, 8], False, True])
        self.same([[tree.key for digit in each.put(5).trees for tree in digit] for each in (heap, other)], [[5, 3], [5, 3]])
        self.same(plain(heap.put(5).trees[1][0]) == plain(other.put(5).trees[1][0]), True)

    def test_children_that_are_broken_off(self):
        # Those of the heap stand ahead of the children at each rank.
        heap = Heap.of_trees(BINOMIAL, ((Tree(BINOMIAL.kinds, 5),), (), (tree_of(BINOMIAL.kinds, (1, 5, 6, 7)),)))
        new = heap.take()
        self.same([new.outline, plain_heap(new)[2][0][0]], [((), (), A), ("a", "a", "a")])
        self.same([list(tree.content) for tree in new.trees[2]], [[5, 5, 6, 7]])
        self.same(new.trees[2][0].children[1][0].key, 6)


class FailingTest(Case):
    def test_puts_that_fail(self):
        for book in (NOTHING, ALONE):
            heap = Heap(book)
            self.refused_with(Spoilt, "row", (A,), heap.put, 5)
            self.refused_with(Spoilt, "row", (A,), Heap, book, (5,))
            self.same([len(heap), heap.trees], [0, ()])
        self.same(Heap(EVEN, (5,)).outline, (A,))
        self.refused_with(Spoilt, "row", (("a", "a"),), Heap(EVEN, (5,)).put, 5)
        self.refused_with(Spoilt, "row", (("a", "a"),), Heap, EVEN, (5, 6))
        self.refused_with(Spoilt, "row", (("a", "a"),), Heap, EVEN, (5, 6, 7, 8))

    def test_melds_that_fail(self):
        heap = Heap(LESS, (1, 2, 3))
        self.refused_with(Spoilt, "row", ((), ("a", "a", "a")), heap.meld, heap)
        self.same([heap.content, heap.outline], [(1, 2, 3), (A, A)])

    def test_takes_that_fail(self):
        heap = Heap(LESS, (7, 6, 5, 4, 3, 2, 1))
        self.same([heap.outline, heap.least_key, len(heap)], [(A, A, A), 1, 7])
        heap = Heap(FULL, (1, 2, 3))
        self.same([heap.outline, heap.next_take], [(A, A), ("take", 1, ("a", "a"))])
        self.same([heap.take().outline, heap.take().take().outline], [(("a", "a"),), (A,)])

    def test_no_keys(self):
        for book in BOOKS:
            heap = Heap(book)
            self.same([heap.content, heap.trees, heap.outline, heap.least_key, heap.next_take, len(heap), bool(heap), str(heap), list(heap.drained())],
                      [(), (), (), None, None, 0, False, "heap with 0 keys, 0 ranks", []])
            self.refused_with(EmptyHeap, "deed", "take", heap.take)
            self.same(heap.meld(heap) == heap, True)

    def test_keys_that_are_no_integers(self):
        heap = Heap(BINOMIAL, (5,))
        for value in (*NO_INTEGERS, "5", (5,), [5], heap):
            self.refused(InvalidOperation, heap.put, value)
            self.refused(InvalidOperation, Heap(NOTHING).put, value)
        self.same([heap.put(10 ** 60 - 1).content, heap.put(-5).least_key], [(5, 10 ** 60 - 1), -5])

    def test_heaps_that_cannot_be_melded(self):
        heap = Heap(BINOMIAL, (5,))
        for value in (*STRANGE, heap.trees, heap.trees[0][0], (heap,), [heap], Heap(GUIDED, (5,)), Heap(LESS), Heap(renamed_book(BINOMIAL, notes={"m": "n"}))):
            self.refused(InvalidOperation, heap.meld, value)
        self.same(heap.meld(Heap(Book.from_lines(*BINOMIAL_LINES), (3,))).content, (3, 5))

    def test_no_book(self):
        for value in STRANGE:
            if not isinstance(value, Book):
                self.refused(InvalidBook, Heap, value)
                self.refused(InvalidBook, Heap, value, None)
                self.refused(InvalidBook, Heap.of_trees, value, ())
                self.refused(InvalidBook, Heap.of_trees, value, None)

    def test_content_that_is_none(self):
        for value in (*STRANGE, [1, 2], "12", 5, {1: 2}, Heap(BINOMIAL, (1,)), (1, (2,)), (1, "2"), (1, 10 ** 60)):
            if not (isinstance(value, tuple) and value in ((), (0,))):
                self.refused(InvalidOperation, Heap, BINOMIAL, value)
        for value in NO_INTEGERS:
            self.refused(InvalidOperation, Heap, BINOMIAL, (5, value))
            self.refused(InvalidOperation, Heap, NOTHING, (5, value))


class TreesTest(Case):
    def test_there_and_back(self):
        for heap in (Heap(BINOMIAL, (5, 3, 8, 1, 9)), Heap(GUIDED, (1, 2, 3, 4)), Heap(MIXED, (3, 3)), Heap(TURNS, (1, 2, 3))):
            other = Heap.of_trees(heap.book, heap.trees)
            self.same([other == heap, other.content, plain_heap(other)], [True, heap.content, plain_heap(heap)])
            self.refused(NothingToUndo, other.elder)
        self.same([Heap.of_trees(book, ()) == Heap(book) for book in BOOKS], [True] * len(BOOKS))

    def test_trees_that_do_not_fit(self):
        one, two = Tree(BINOMIAL.kinds, 5), tree_of(BINOMIAL.kinds, (3, 4))
        other = Tree(Kinds("a", {"a": ("a", "a"), "b": ("a", "a")}), 5)
        for value in (*STRANGE, one, [one], (one,), ([one],), ((one, one),), ((one,), ()), ((),), ((), ()), ((two,),), ((one,), (one,)),
                      ((), (one,)), ((), (two,), ()), ((other,),), ((None,),), ((5,),), ((one, 5),), (A,), ((one,), None), (((one,),),),
                      ((one,), 5), {0: (one,)}, Heap(BINOMIAL, (1,)), ((two,), (two,)), ((one,), (two, two))):
            if not (isinstance(value, tuple) and value == ()):
                self.refused(InvalidHeap, Heap.of_trees, BINOMIAL, value)
        self.same(Heap.of_trees(BINOMIAL, ((one,), (two,))).content, (3, 4, 5))

    def test_sorted_by_kind(self):
        a, b = Tree.linked("a", (Tree(MIXED.kinds, 1),) * 2), Tree.linked("b", (Tree(MIXED.kinds, 1),) * 3)
        self.same(Heap.of_trees(MIXED, ((), (a, b))).outline, ((), ("a", "b")))
        self.refused(InvalidHeap, Heap.of_trees, MIXED, ((), (b, a)))
        self.refused(InvalidHeap, Heap.of_trees, MIXED, ((), (a, a, b)))

    def test_kinds_at_their_ranks(self):
        b = Tree.linked("b", (Tree(TURNS.kinds, 1),) * 3)
        self.same(Heap.of_trees(TURNS, ((), (b,))).content, (1, 1, 1))
        self.refused(InvalidHeap, Heap.of_trees, TURNS, ((b,),))
        self.refused(InvalidHeap, Heap.of_trees, FORKED, ((), (b,)))

    def test_later_changes_do_not_matter(self):
        heap = Heap(BINOMIAL, (1, 2, 3))
        trees = heap.trees
        self.same([type(trees), [type(digit) for digit in trees]], [tuple, [tuple, tuple]])
        heap.put(4)
        heap.take()
        self.same([heap.trees == trees, heap.content], [True, (1, 2, 3)])


class GreatTest(Case):
    def test_5000_and_5001_keys(self):
        keys = tuple((key * 1237) % 5003 for key in range(5000))
        heap = Heap(BINOMIAL, keys)
        self.same([len(heap), heap.content == tuple(sorted(keys)), heap.outline == read_row("0 0 0 a 0 0 0 a a a 0 0 a")], [5000, True, True])
        self.refused_with(TooMany, "limit", 5000, heap.put, 1)
        self.refused_with(TooMany, "limit", 5000, heap.meld, Heap(BINOMIAL, (1,)))
        self.refused_with(TooMany, "limit", 5000, heap.meld, heap)
        self.refused(InvalidOperation, heap.put, None)
        self.refused(InvalidOperation, heap.meld, None)
        self.refused(InvalidOperation, Heap, BINOMIAL, (*keys, 1))
        self.refused(InvalidOperation, Heap, NOTHING, (*keys, 1))
        self.same([len(heap.meld(Heap(BINOMIAL))), len(heap.take()), len(heap.take().put(1)), len(heap.take().meld(Heap(BINOMIAL, (1,))))],
                  [5000, 4999, 5000, 5000])
        self.same([heap.elder(many=5000) == Heap(BINOMIAL), len(heap.elder(many=4000)), heap.elder(many=5000).content], [True, 1000, ()])
        self.refused_with(NothingToUndo, "many", 5001, heap.elder, many=5001)
        for call in (heap.take, heap.elder):
            self.same(len(call()), 4999)

    def test_spoilt_comes_ahead_of_too_many(self):
        # Two heaps of 4096 keys, which meld to a row that is not right.
        book = BINOMIAL.without("page m a+a to a then m")
        tree = tree_of(BINOMIAL.kinds, range(4096))
        heap = Heap.of_trees(book, ((),) * 12 + ((tree,),))
        self.refused_with(Spoilt, "row", ((),) * 12 + (("a", "a"),), heap.meld, heap)
        full = Heap.of_trees(HYPER, ((),) * 12 + ((tree,),))
        self.refused_with(TooMany, "limit", 5000, full.meld, full)

    def test_too_many_trees(self):
        tree = tree_of(BINOMIAL.kinds, range(4096))
        small = tree_of(BINOMIAL.kinds, range(512))
        rest = (tree_of(HYPER.kinds, range(256)), tree_of(HYPER.kinds, range(256)))
        self.same(len(Heap.of_trees(HYPER, ((),) * 8 + (rest[:1], (small,), (), (), (tree,)))), 4864)
        full = ((),) * 3 + ((tree_of(HYPER.kinds, range(8)),), (), (), (), (tree_of(HYPER.kinds, range(128)),), rest[:1], (small,), (), (), (tree,))
        self.same(len(Heap.of_trees(HYPER, full)), 5000)
        one_more = ((Tree(HYPER.kinds, 1),), *full[1:])
        self.refused_with(TooMany, "limit", 5000, Heap.of_trees, HYPER, one_more)
        self.refused_with(TooMany, "limit", 5000, Heap.of_trees, HYPER, ((),) * 12 + ((tree, tree),))
        self.refused(InvalidHeap, Heap.of_trees, BINOMIAL, ((),) * 12 + ((tree, tree),))

    def test_drained(self):
        keys = tuple((key * 37) % 401 for key in range(400))
        self.same([list(Heap(BINOMIAL, keys).drained()) == sorted(keys), list(Heap(BINOMIAL, (2, 1, 2, 1)).drained())], [True, [1, 1, 2, 2]])

    def test_drained_where_a_take_fails(self):
        chance = random.Random(27)
        met = set()
        for book in (LESS, FULL, EVEN, TURNS, GUIDED, SHORT):
            heap = Heap(book)
            for _ in range(60):
                try:
                    heap = heap.put(chance.randrange(100))
                except Spoilt:
                    break
                self.drains(heap, met)
        self.same(met, {True, False})

    def drains(self, heap, met):
        """The keys come out one by one, each one ahead of the error of its take."""
        keys, at, wanted = heap.drained(), heap, []
        while at:
            wanted.append(at.least_key)
            self.same(next(keys), at.least_key)
            try:
                at = at.take()
            except Spoilt as error:
                self.refused_with(Spoilt, "row", error.row, lambda: next(keys))
                met.add(False)
                return
        self.same([list(keys), wanted == sorted(wanted)], [[], True])
        met.add(True)


class ElderTest(Case):
    def test_step_by_step(self):
        chance = random.Random(30)
        heap, history = Heap(BINOMIAL), []
        for _ in range(80):
            history.append(heap)
            kind = chance.choice(("put", "put", "meld", "take"))
            if kind == "put" or not heap or len(heap) > 400:
                heap = heap.put(chance.randrange(9))
            else:
                heap = heap.take() if kind == "take" else heap.meld(chance.choice(history))
        for many in range(len(history) + 1):
            self.same(plain_heap(heap.elder(many=many)), plain_heap((history + [heap])[len(history) - many]))
        for many in (81, 82, 1000, 10 ** 60 - 1):
            self.refused_with(NothingToUndo, "many", many, heap.elder, many=many)
        at = heap
        for before in reversed(history):
            at = at.elder()
            self.same([at == before, at.content], [True, before.content])
        self.refused_with(NothingToUndo, "many", 1, at.elder)
        self.same(at.elder(many=0) == at, True)

    def test_puts_of_content_count(self):
        heap = Heap(BINOMIAL, (5, 3, 8))
        self.same([heap.elder(many=many).content for many in range(4)], [(3, 5, 8), (3, 5), (5,), ()])
        self.refused_with(NothingToUndo, "many", 4, heap.elder, many=4)
        self.same(heap.put(1).elder(many=4).content, ())
        self.refused_with(NothingToUndo, "many", 1, Heap(BINOMIAL).elder)

    def test_of_trees_has_no_elder(self):
        heap = Heap.of_trees(BINOMIAL, Heap(BINOMIAL, (5, 3)).trees)
        self.refused_with(NothingToUndo, "many", 1, heap.elder)
        self.same(heap.put(4).elder() == heap, True)

    def test_a_meld_has_the_first_heap_as_its_elder(self):
        one, other = Heap(BINOMIAL, (1, 2, 3)), Heap(BINOMIAL, (4,))
        self.same([one.meld(other).elder() == one, other.meld(one).elder() == other, one.meld(one).elder(many=4).content], [True, True, ()])

    def test_many_that_is_no_count(self):
        heap = Heap(BINOMIAL, (5, 3))
        for value in STRANGE:
            if type(value) is not int or not 0 <= value < TOO_GREAT:
                self.assertIs(self.refused(InvalidNumber, heap.elder, many=value).value, value)
                self.assertIs(self.refused(InvalidNumber, Heap(BINOMIAL).elder, many=value).value, value)


class SignsTest(Case):
    def test_equal(self):
        self.same([Heap(BINOMIAL, (1, 2)) == Heap(BINOMIAL, (2, 1)), Heap(BINOMIAL, (1, 2)) != Heap(BINOMIAL, (2, 1))], [True, False])
        others = (Heap(BINOMIAL), Heap(GUIDED), Heap(BINOMIAL, (1,)), Heap(BINOMIAL, (2,)), Heap(LESS, (1,)), Heap(BINOMIAL, (1, 1)),
                  Heap(BINOMIAL, (1, 2, 3, 4)), Heap(BINOMIAL, (1, 3, 2, 4)), Heap(HYPER, (1, 2)))
        for one, other in itertools.permutations(others, 2):
            self.same([one == other, one != other], [False, True])
        # The way on which it came does not matter.
        self.same(Heap(BINOMIAL, (1, 2)).put(0).take() == Heap(BINOMIAL, (1, 2)), True)

    def test_equal_to_no_other_value(self):
        heap = Heap(BINOMIAL, (5,))
        for value in (*STRANGE, 5, (5,), heap.trees, heap.content, "heap with 1 keys, 1 ranks", BINOMIAL, heap.trees[0][0]):
            self.same([heap == value, heap != value, value == heap], [False, True, False])

    def test_keys_in_it(self):
        heap = Heap(BINOMIAL, (5, 0, 1, 9, 5))
        self.same([key in heap for key in range(10)], [True, True, False, False, False, True, False, False, False, True])
        for value in (*STRANGE, (5,), [5], "5", heap, Tree(BINOMIAL.kinds, 5)):
            self.same(value in heap, False)
        self.same([5 in Heap(BINOMIAL), None in Heap(BINOMIAL), True in Heap(BINOMIAL, (1,))], [False] * 3)

    def test_bool_and_len(self):
        self.same([bool(Heap(BINOMIAL)), bool(Heap(BINOMIAL, (0,))), len(Heap(BINOMIAL, (0, 0, 0)))], [False, True, 3])
        self.same(str(Heap(GUIDED, (1, 2, 3, 4))), "heap with 4 keys, 2 ranks")

    def test_cannot_be_iterated_over(self):
        self.cannot_be_iterated_over(Heap(BINOMIAL))
        self.cannot_be_iterated_over(Heap(BINOMIAL, (1, 2)))

    def test_book(self):
        self.same([Heap(GUIDED, (1,)).book == GUIDED, Heap(GUIDED, (1,)).put(2).book == GUIDED], [True, True])
