"""Trees with keys."""

from linkbooks.base.kinds import Kinds
from linkbooks.base.words import is_integer
from linkbooks.errors import InvalidKinds, InvalidOperation, InvalidTree, TooMany

MAX_NODES = 5000


def _are_fit(trees):
    """Whether the value is a tuple of two or three trees with equal kinds and one rank."""
    if not isinstance(trees, tuple) or not 2 <= len(trees) <= 3:
        return False
    if not all([isinstance(tree, Tree) for tree in trees]):
        return False
    return all([tree.kinds == trees[0].kinds and tree.rank == trees[0].rank for tree in trees])


def _tree_of(kinds, key, way, children):
    """The tree with this key at its top, this way and these children."""
    tree = Tree(kinds, key)
    tree._way = way
    tree._children = children
    tree._size = 1 + sum([child.size for digit in children for child in digit])
    return tree


def _keys_in(tree):
    """The keys of all nodes, depth by depth. Properties and operators ask for them, so nothing is changed here."""
    keys = []
    level = [tree]
    while level:
        keys = keys + [each.key for each in level]
        level = [child for each in level for digit in each.children for child in digit]
    return keys


class Tree:
    """A tree with a key in each node, none of which is less than the one above it."""

    def __init__(self, kinds, key):
        if not isinstance(kinds, Kinds):
            raise InvalidKinds("these are no kinds")
        if not is_integer(key):
            raise InvalidOperation("this key is no integer")
        self._kinds = kinds
        self._key = key
        self._way = (kinds.leaf,)
        self._children = ()
        self._size = 1

    @classmethod
    def linked(cls, name, trees):
        """The trees of a tuple linked to one of a kind."""
        if not _are_fit(trees):
            raise InvalidTree("this is no tuple of two or three trees of equal kinds and of one rank")
        kinds = trees[0].kinds
        if tuple(sorted([tree.kind for tree in trees])) != kinds[name]:
            raise InvalidOperation("their kinds are not the parts of the making")
        if sum([tree.size for tree in trees]) > MAX_NODES:
            raise TooMany(MAX_NODES)
        keys = [tree.key for tree in trees]
        at = keys.index(min(keys))
        winner, losers = trees[at], trees[:at] + trees[at + 1:]
        return _tree_of(kinds, winner.key, (*winner.way, name), (*winner.children, losers))

    @property
    def kinds(self):
        """The kinds over which it is a tree."""
        return self._kinds

    @property
    def key(self):
        """The key at its top, the least one."""
        return self._key

    @property
    def kind(self):
        """Its kind."""
        return self._way[-1]

    @property
    def rank(self):
        """Its rank."""
        return len(self._children)

    @property
    def size(self):
        """The number of its nodes."""
        return self._size

    @property
    def way(self):
        """The kind that its top had at each rank from 0 up to its own."""
        return self._way

    @property
    def content(self):
        """The sorted tuple of its keys."""
        return tuple(sorted(_keys_in(self)))

    @property
    def children(self):
        """A tuple with a tuple of trees for each rank below its own."""
        return self._children

    def broken(self):
        """The children, those of each rank sorted by kind."""
        return tuple([tuple(sorted(digit, key=lambda tree: tree.kind)) for digit in self._children])

    def parted(self):
        """The trees from which it was linked last, the winner first."""
        if not self._children:
            raise InvalidOperation("a single node was linked from no trees")
        winner = _tree_of(self._kinds, self._key, self._way[:-1], self._children[:-1])
        return (winner, *self._children[-1])

    def with_key(self, key):
        """The tree with another key at its top."""
        if not is_integer(key):
            raise InvalidOperation("this key is no integer")
        if any([key > child.key for digit in self._children for child in digit]):
            raise InvalidOperation("this key is greater than the key of a child")
        return _tree_of(self._kinds, key, self._way, self._children)

    def __contains__(self, value):
        return is_integer(value) and value in _keys_in(self)

    def __len__(self):
        return len(range(self._size))

    def __eq__(self, other):
        if not isinstance(other, Tree) or self._kinds != other._kinds:
            return False
        return self._key == other._key and self.kind == other.kind and self._children == other._children

    def __str__(self):
        return f"{self.kind} of rank {self.rank} with {self._size} keys from {self._key} on"


def nodes_of(tree):
    """A generator of the pairs (key, depth) of all nodes, each one ahead of those below it."""
    if not isinstance(tree, Tree):
        raise InvalidTree("this is no tree")
    waiting = [(tree, 0)]
    while waiting:
        here, depth = waiting.pop()
        yield (here.key, depth)
        below = [(child, depth + 1) for digit in here.children for child in digit]
        waiting.extend(below[::-1])
