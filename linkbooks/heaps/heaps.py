"""Heaps: trees with keys, in a right row."""

from linkbooks.base.rows import digit_at
from linkbooks.base.words import is_count, is_integer
from linkbooks.book.books import check_book
from linkbooks.deeds.rows import run_deed
from linkbooks.errors import (
    EmptyHeap, InvalidHeap, InvalidNumber, InvalidOperation, NothingToUndo, Spoilt, TooMany,
)
from linkbooks.heaps.trees import Tree

MAX_CONTENT = 5000


def _is_content(value):
    """Whether the value is a tuple of at most 5000 integers."""
    return isinstance(value, tuple) and len(value) <= MAX_CONTENT and all([is_integer(key) for key in value])


def _outline_of(trees):
    """The row of the kinds of trees."""
    return tuple([tuple([tree.kind for tree in digit]) for digit in trees])


def _many_in(trees):
    """The number of keys of the trees of each rank together."""
    return sum([tree.size for digit in trees for tree in digit])


def _stands(tree, book, rank):
    """Whether the value is a tree over the kinds of a book that has this rank."""
    return isinstance(tree, Tree) and tree.kinds == book.kinds and tree.rank == rank


def _are_trees(book, value):
    """Whether the value is a tuple with a tuple of trees for each rank, in a right row."""
    if not isinstance(value, tuple) or not all([isinstance(digit, tuple) for digit in value]):
        return False
    if not all([_stands(tree, book, rank) for rank, digit in enumerate(value) for tree in digit]):
        return False
    return book.is_right(_outline_of(value))


def _taken_out(pool, making):
    """The pair of the first trees of the kinds of a making, in their order, and of what is left of a pool."""
    parts, left = [], list(pool)
    for name in making:
        at = [tree.kind for tree in left].index(name)
        parts.append(left[at])
        left = left[:at] + left[at + 1:]
    return tuple(parts), left


def _linked(kinds, made, pool):
    """The pair of the trees that are made out of a pool, in their order, and of what is left of it."""
    carried = []
    for name in made:
        parts, pool = _taken_out(pool, kinds[name])
        carried.append(Tree.linked(name, parts))
    return carried, pool


def _trees_behind(book, one, other, carried, gone):
    """The trees of each rank behind the steps of a machine that adds the trees of two heaps and those carried."""
    trees = []
    for rank in range(len(gone)):
        pool = [*digit_at(one, rank), *digit_at(other, rank), *carried]
        carried, left = _linked(book.kinds, gone[rank][1], pool)
        trees.append(tuple(sorted(left, key=lambda tree: tree.kind)))
    while trees and not trees[-1]:
        trees.pop()
    return tuple(trees)


def _heap_of(book, trees, elder):
    """The heap with these trees, and with the heap that it comes from."""
    heap = Heap(book)
    heap._trees = trees
    heap._elder = elder
    return heap


class Heap:
    """A heap: it never changes, each deed gives a new one."""

    def __init__(self, book, content=()):
        check_book(book)
        if not _is_content(content):
            raise InvalidOperation("this is no tuple of at most 5000 integers")
        self._book = book
        self._trees = ()
        self._elder = None
        if content:
            heap = Heap(book)
            for key in content:
                heap = heap.put(key)
            self._trees = heap._trees
            self._elder = heap._elder

    @classmethod
    def of_trees(cls, book, trees):
        """The heap with these trees, a tuple of them for each rank."""
        check_book(book)
        if not _are_trees(book, trees):
            raise InvalidHeap("these trees stand in no right row of the book")
        if _many_in(trees) > MAX_CONTENT:
            raise TooMany(MAX_CONTENT)
        return _heap_of(book, trees, None)

    @property
    def book(self):
        """The book by which deeds are done."""
        return self._book

    @property
    def trees(self):
        """A tuple with a tuple of trees for each rank."""
        return self._trees

    @property
    def outline(self):
        """The row of the heap."""
        return _outline_of(self._trees)

    @property
    def content(self):
        """The sorted tuple of the keys."""
        return tuple(sorted([key for digit in self._trees for tree in digit for key in tree.content]))

    @property
    def least_key(self):
        """The least key, None if there is none."""
        return min([tree.key for digit in self._trees for tree in digit], default=None)

    @property
    def next_take(self):
        """The deed that takes the least key, None if there is none."""
        if not self._trees:
            return None
        rank, at = self._place_of_least()
        return ("take", rank, self._trees[rank][at].way)

    def _place_of_least(self):
        """The rank of the first tree with the least key at its top, and which one it is there."""
        least = self.least_key
        places = [
            (rank, at)
            for rank, digit in enumerate(self._trees) for at, tree in enumerate(digit) if tree.key == least
        ]
        return places[0]

    def _behind(self, deed, one, other, carried):
        """The heap behind a deed, for which the trees of two heaps and those carried are added."""
        row, gone = run_deed(self._book, self.outline, deed)
        if not self._book.is_right(row):
            raise Spoilt(row)
        if _many_in(one) + _many_in(other) + len(carried) > MAX_CONTENT:
            raise TooMany(MAX_CONTENT)
        return _heap_of(self._book, _trees_behind(self._book, one, other, carried, gone), self)

    def put(self, key):
        """The heap with one more key."""
        if not is_integer(key):
            raise InvalidOperation("this key is no integer")
        return self._behind(("put",), self._trees, (), [Tree(self._book.kinds, key)])

    def meld(self, other):
        """The heap with the keys of this one and of another one."""
        if not isinstance(other, Heap) or other.book != self._book:
            raise InvalidOperation("this is no heap with an equal book")
        return self._behind(("meld", other.outline), self._trees, other.trees, [])

    def take(self):
        """The heap without its least key."""
        if not self._trees:
            raise EmptyHeap("take")
        rank, at = self._place_of_least()
        digit = self._trees[rank]
        rest = (*self._trees[:rank], digit[:at] + digit[at + 1:], *self._trees[rank + 1:])
        return self._behind(self.next_take, rest, digit[at].broken(), [])

    def drained(self):
        """A generator of the keys in the order in which takes give them out."""
        heap = self
        while heap.least_key is not None:
            yield heap.least_key
            heap = heap.take()

    def elder(self, *, many=1):
        """The heap on which so many calls of deeds were made to come to this one."""
        if not is_count(many):
            raise InvalidNumber(many)
        heap = self
        for _ in range(many):
            heap = heap._elder
            if heap is None:
                raise NothingToUndo(many)
        return heap

    def __contains__(self, value):
        return any([value in tree for digit in self._trees for tree in digit])

    def __len__(self):
        return len(range(_many_in(self._trees)))

    def __bool__(self):
        return bool(self._trees)

    def __eq__(self, other):
        return isinstance(other, Heap) and self._book == other._book and self._trees == other._trees

    def __str__(self):
        return f"heap with {_many_in(self._trees)} keys, {len(self._trees)} ranks"
