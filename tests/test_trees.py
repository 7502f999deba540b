"""Trees with keys: [0.2], [0.4], [0.8], [0.13], [10.1] and stage 10."""

import itertools
import random

import linkbooks.heaps.trees as module
from linkbooks.base.kinds import Kinds
from linkbooks.base.ranks import Ranks
from linkbooks.errors import InvalidKinds, InvalidOperation, InvalidTree, TooMany, UnknownName
from linkbooks.heaps.trees import Tree, nodes_of
from tests.helper import GREAT, STRANGE, TOO_GREAT, Case
from tests.models import keys_in, linked, plain, single

A = ("a",)
DOUBLE = Kinds("a", {"a": ("a", "a")})
MIXED = Kinds("a", {"a": ("a", "a"), "b": ("a", "a", "a"), "c": ("a", "b"), "d": ("b", "b", "c")})
CHAIN = Kinds("a", {"b": ("a", "a"), "c": ("b", "b", "b")})
NO_INTEGERS = [value for value in STRANGE if type(value) is not int or abs(value) >= TOO_GREAT]


def leaves(kinds, *keys):
    return tuple(Tree(kinds, key) for key in keys)


def binomial(rank, key):
    """A tree of this rank, the keys of which ascend from this one on."""
    if rank == 0:
        return Tree(DOUBLE, key)
    return Tree.linked("a", (binomial(rank - 1, key), binomial(rank - 1, key + (1 << rank - 1))))


def drawn(chance, kinds, name, rank):
    """The pair of a tree by chance, and of the same tree as the tests keep it; None if it does not exist."""
    if rank == 0:
        key = chance.randrange(-3, 4)
        return (Tree(kinds, key), single(kinds.leaf, key)) if name == kinds.leaf else None
    parts = [drawn(chance, kinds, part, rank - 1) for part in chance.sample(kinds[name], len(kinds[name]))]
    if not parts or None in parts:
        return None
    trees, models = [part[0] for part in parts], [part[1] for part in parts]
    return Tree.linked(name, tuple(trees)), linked(name, models)


def many_drawn(seed=3, many=60):
    """Many such pairs."""
    chance = random.Random(seed)
    found = []
    while len(found) < many:
        kinds, rank = chance.choice((DOUBLE, MIXED, MIXED, CHAIN)), chance.randrange(5)
        pair = drawn(chance, kinds, chance.choice(kinds.names), rank)
        if pair is not None:
            found.append(pair)
    return found


def nodes(model, depth=0):
    """The pairs (key, depth) of all nodes of a tree that the tests keep."""
    yield model[1], depth
    for digit in model[2]:
        for child in digit:
            yield from nodes(child, depth + 1)


class InterfaceTest(Case):
    def test_constant(self):
        self.same(module.MAX_NODES, 5000)

    def test_class_defines_all(self):
        self.defined_in(module, "Tree", "nodes_of")
        methods = {"linked": ["name", "trees"], "broken": [], "parted": [], "with_key": ["key"]}
        self.methods_of(Tree, methods, ("kinds", "key", "kind", "rank", "size", "way", "content", "children"))
        self.assertIsInstance(vars(Tree)["linked"], classmethod)
        for name in ("__init__", "__len__", "__eq__", "__str__", "__contains__"):
            self.assertIn(name, vars(Tree))
        self.signature(Tree, "(kinds, key)")
        self.signature(nodes_of, "(tree)")

    def test_examples(self):
        one, other, third = leaves(DOUBLE, 5, 3, 3)
        pair = Tree.linked("a", (one, other))
        four = Tree.linked("a", (pair, Tree.linked("a", (third, third))))
        self.same([str(four), four.way, four.content, [tree.key for tree in four.broken()[1]], list(nodes_of(four))],
                  ["a of rank 2 with 4 keys from 3 on", ("a", "a", "a"), (3, 3, 3, 5), [3], [(3, 0), (5, 1), (3, 1), (3, 2)]])


class NodeTest(Case):
    def test_a_single_node(self):
        for key in (0, 1, -1, 7, GREAT, -GREAT):
            for kinds in (DOUBLE, MIXED, CHAIN, Kinds("zz", {})):
                tree = Tree(kinds, key)
                self.same([tree.kinds == kinds, tree.key, tree.kind, tree.rank, tree.size, tree.way, tree.content, tree.children],
                          [True, key, kinds.leaf, 0, 1, (kinds.leaf,), (key,), ()])
                self.same([len(tree), list(nodes_of(tree)), tree.broken(), key in tree], [1, [(key, 0)], (), True])
                self.same(str(tree), f"{kinds.leaf} of rank 0 with 1 keys from {key} on")
                self.refused(InvalidOperation, tree.parted)

    def test_no_kinds(self):
        for value in STRANGE:
            if not isinstance(value, Kinds):
                self.refused(InvalidKinds, Tree, value, 5)
                self.refused(InvalidKinds, Tree, value, None)
        self.refused(InvalidKinds, Tree, Ranks(DOUBLE), 5)

    def test_keys_that_are_no_integers(self):
        for value in (*NO_INTEGERS, "5", (5,), [5], b"5"):
            self.refused(InvalidOperation, Tree, DOUBLE, value)
            self.refused(InvalidOperation, Tree(DOUBLE, 5).with_key, value)
            self.refused(InvalidOperation, Tree.linked("a", leaves(DOUBLE, 3, 4)).with_key, value)


class LinkedTest(Case):
    def test_against_trees_kept_here(self):
        for tree, model in many_drawn():
            self.same(plain(tree), model)
            keys = keys_in(model)
            self.same([tree.content, tree.size, len(tree), tree.key], [tuple(sorted(keys)), len(keys), len(keys), min(keys)])
            self.same([tree.kind, tree.rank, tree.way], [model[0][-1], len(model[0]) - 1, model[0]])
            self.same(list(nodes_of(tree)), list(nodes(model)))
            self.same(Ranks(tree.kinds).is_way(tree.way), True)
            self.same(Ranks(tree.kinds).size_of(tree.kind, tree.rank), tree.size)
            row = tuple(tuple(child.kind for child in digit) for digit in tree.broken())
            self.same(row, Ranks(tree.kinds).children_of(tree.way))

    def test_the_winner_is_the_first_one_with_the_least_key(self):
        for keys in itertools.product((1, 2, 3), repeat=3):
            trees = leaves(MIXED, *keys)
            tree = Tree.linked("b", trees)
            at = keys.index(min(keys))
            losers = keys[:at] + keys[at + 1:]
            self.same([tree.key, tuple(child.key for child in tree.children[0])], [min(keys), losers])
            self.same(list(nodes_of(tree)), [(min(keys), 0), *[(key, 1) for key in losers]])

    def test_equal_keys(self):
        # The trees with equal keys can be told apart by what is below them.
        low, high = Tree.linked("a", leaves(MIXED, 1, 5)), Tree.linked("a", leaves(MIXED, 1, 7))
        one, other = Tree.linked("a", (low, high)), Tree.linked("a", (high, low))
        self.same([plain(one.children[1][0]), plain(other.children[1][0])], [plain(high), plain(low)])
        self.same([one.children[0][0].key, other.children[0][0].key, one == other, one.content == other.content], [5, 7, False, True])

    def test_parts_in_any_order(self):
        two, three = Tree.linked("a", leaves(MIXED, 4, 6)), Tree.linked("b", leaves(MIXED, 5, 7, 9))
        for trees in ((two, three), (three, two)):
            tree = Tree.linked("c", trees)
            self.same([tree.way, tree.key, tree.size, [child.kind for child in tree.children[1]]], [("a", "a", "c"), 4, 5, ["b"]])
        three = Tree.linked("b", leaves(MIXED, 3, 7, 9))
        self.same([Tree.linked("c", (two, three)).way, Tree.linked("c", (three, two)).children[1][0].kind], [("a", "b", "c"), "a"])

    def test_losers_are_children_in_their_order(self):
        b = [Tree.linked("b", leaves(MIXED, *keys)) for keys in ((9, 9, 9), (8, 8, 8), (3, 3, 3))]
        c = Tree.linked("c", (Tree.linked("a", leaves(MIXED, 2, 2)), Tree.linked("b", leaves(MIXED, 5, 5, 5))))
        b = [Tree.linked("b", tuple(Tree.linked("a", leaves(MIXED, key, key)) for _ in range(3))) for key in (9, 8)]
        tree = Tree.linked("d", (b[0], c, b[1]))
        self.same([[child.key for child in tree.children[2]], tree.way], [[9, 8], ("a", "a", "c", "d")])
        self.same([[child.key for child in digit] for digit in tree.broken()], [[2], [5], [9, 8]])

    def test_broken_is_sorted_by_kind(self):
        b = [Tree.linked("b", tuple(Tree.linked("a", leaves(MIXED, key, key)) for _ in range(3))) for key in (4, 8)]
        c = Tree.linked("c", (Tree.linked("a", leaves(MIXED, 6, 6)), Tree.linked("b", leaves(MIXED, 5, 5, 5))))
        tree = Tree.linked("d", (c, b[0], b[1]))
        self.same([[(child.kind, child.key) for child in tree.children[2]], [(child.kind, child.key) for child in tree.broken()[2]]],
                  [[("c", 5), ("b", 8)], [("b", 8), ("c", 5)]])
        tree = Tree.linked("d", (c, b[1], Tree.linked("b", tuple(Tree.linked("a", leaves(MIXED, 1, 1)) for _ in range(3)))))
        self.same([child.kind for child in tree.broken()[2]], ["b", "c"])
        same = [Tree.linked("b", leaves(MIXED, key, key, key)) for key in (7, 6)]
        self.same([child.key for child in Tree.linked("b", leaves(MIXED, 1, 7, 6)).broken()[0]], [7, 6])
        self.same(same[0].broken() == same[0].children, True)

    def test_parted(self):
        for tree, _ in many_drawn(seed=5):
            if tree.rank:
                trees = tree.parted()
                self.same([type(trees), len(trees), trees[0].key], [tuple, len(tree.kinds[tree.kind]), tree.key])
                self.same([part.kind for part in trees[1:]], [part.kind for part in tree.children[-1]])
                self.same([part.rank for part in trees], [tree.rank - 1] * len(trees))
                self.assertEqual(Tree.linked(tree.kind, trees), tree)
                self.same([trees[0].way, sum(part.size for part in trees), trees[1:] == tree.children[-1]], [tree.way[:-1], tree.size, True])

    def test_trees_that_do_not_fit(self):
        one, two = Tree(DOUBLE, 1), Tree.linked("a", leaves(DOUBLE, 1, 2))
        other = Tree(Kinds("a", {"a": ("a", "a"), "b": ("a", "a")}), 1)
        for trees in (*STRANGE, (), (one,), (one,) * 4, [one, one], one, (one, two), (two, one), (one, other), (one, None), (one, 1),
                      (one, one, two), (one, DOUBLE), {"a": one}, ((one, one),), (one, "a")):
            self.refused(InvalidTree, Tree.linked, "a", trees)
            self.refused(InvalidTree, Tree.linked, "x", trees)
            self.refused(InvalidTree, Tree.linked, None, trees)

    def test_names_that_are_no_kinds(self):
        trees = leaves(DOUBLE, 1, 2)
        for name in (*STRANGE, "b", ["a"], ("a",), {}):
            if name != "a":
                with self.assertRaises(UnknownName) as caught:
                    Tree.linked(name, trees)
                self.assertIs(caught.exception.word, name)
                with self.assertRaises(UnknownName) as caught:
                    Tree.linked(name, (*trees, trees[0]))
                self.assertIs(caught.exception.word, name)

    def test_kinds_that_are_not_the_parts(self):
        one, two, three = leaves(MIXED, 1, 2, 3)
        for name, trees in (("a", (one, two, three)), ("b", (one, two)), ("c", (one, two)), ("d", (one, two, three))):
            self.refused(InvalidOperation, Tree.linked, name, trees)
        b = Tree.linked("b", (one, two, three))
        a = Tree.linked("a", (one, two))
        for name, trees in (("a", (a, b)), ("c", (a, a)), ("c", (b, b)), ("b", (a, a, b)), ("d", (b, b, a)), ("d", (b, b))):
            self.refused(InvalidOperation, Tree.linked, name, trees)
        self.refused(InvalidOperation, Tree.linked, "a", leaves(CHAIN, 1, 2))
        self.refused(InvalidOperation, Tree.linked, "zz", leaves(Kinds("zz", {}), 1, 2))

    def test_4096_and_more_nodes(self):
        tree = binomial(12, 0)
        self.same([tree.size, len(tree), tree.rank, tree.content == tuple(range(4096)), 4095 in tree, 4096 in tree], [4096, 4096, 12, True, True, False])
        self.same([len(list(nodes_of(tree))), max(depth for _, depth in nodes_of(tree))], [4096, 12])
        self.refused_with(TooMany, "limit", 5000, Tree.linked, "a", (tree, tree))
        self.refused(UnknownName, Tree.linked, "b", (tree, tree))
        self.refused(InvalidOperation, Tree.linked, "a", (tree, tree, tree))
        self.refused(InvalidTree, Tree.linked, "a", (tree, binomial(11, 0)))
        self.same(len(Tree.linked("a", (binomial(11, 5), binomial(11, 3)))), 4096)

    def test_sizes_up_to_5000(self):
        kinds = Kinds("a", {"a": ("a", "a", "a"), "b": ("a", "a"), "c": ("a", "a", "b"), "d": ("b", "b", "c"), "e": ("a", "d"), "f": ("e", "e")})
        sizes = {}
        ranks = Ranks(kinds)
        for rank in range(9):
            for name in ranks.kinds_at(rank):
                sizes[name, rank] = ranks.size_of(name, rank)
        built = {}

        def build(name, rank):
            if (name, rank) not in built:
                built[name, rank] = Tree(kinds, 0) if rank == 0 else Tree.linked(name, tuple(build(part, rank - 1) for part in kinds[name]))
            return built[name, rank]
        for (name, rank), size in sizes.items():
            if size <= 5000:
                self.same(build(name, rank).size, size)
            elif all(sizes[part, rank - 1] <= 5000 for part in kinds[name]):
                self.refused_with(TooMany, "limit", 5000, build, name, rank)

    def test_just_5000_nodes(self):
        # Two ranks up the ring of a, b and c a tree is five times as great: 8 * 5 ** 4 is 5000.
        kinds = Kinds("a", {"b": ("a", "a"), "c": ("a", "a", "a"), "a": ("b", "c"), "d": ("b", "b"), "e": ("d", "d"), "f": ("a", "d")})
        tree = Tree(kinds, 0)
        for _ in range(4):
            tree = Tree.linked("a", (Tree.linked("b", (tree, tree)), Tree.linked("c", (tree, tree, tree))))
        pair = Tree.linked("b", (tree, tree))
        four = Tree.linked("d", (pair, pair))
        self.same([tree.size, pair.size, four.size], [625, 1250, 2500])
        full = Tree.linked("e", (four, four))
        self.same([full.size, len(full), str(full)], [5000, 5000, "e of rank 11 with 5000 keys from 0 on"])
        five = Tree.linked("a", (pair, Tree.linked("c", (tree, tree, tree))))
        self.refused_with(TooMany, "limit", 5000, Tree.linked, "f", (five, four))


class KeyTest(Case):
    def test_no_node_has_a_lesser_key_than_the_one_above(self):
        for tree, _ in many_drawn(seed=7):
            above = []
            for key, depth in nodes_of(tree):
                del above[depth:]
                self.assertTrue(all(key >= other for other in above))
                above.append(key)

    def test_with_key(self):
        tree = Tree.linked("a", (Tree.linked("a", leaves(DOUBLE, 3, 9)), Tree.linked("a", leaves(DOUBLE, 5, 7))))
        for key in (3, 4, 5, 2, 0, -GREAT):
            other = tree.with_key(key)
            self.same([other.key, other.content, other.way, other.rank, other.size], [key, tuple(sorted((key, 5, 7, 9))), tree.way, 2, 4])
            self.same(other.children == tree.children, True)
            self.same(other == tree, key == 3)
        for key in (6, 7, 8, 9, 10, GREAT):
            self.refused(InvalidOperation, tree.with_key, key)
        self.same([tree.key, tree.content], [3, (3, 5, 7, 9)])

    def test_the_bound_is_each_child(self):
        tree = Tree.linked("a", (Tree.linked("a", leaves(DOUBLE, 3, 4)), Tree.linked("a", leaves(DOUBLE, 8, 9))))
        self.same([tree.with_key(4).key, tree.with_key(3).key], [4, 3])
        self.refused(InvalidOperation, tree.with_key, 5)
        wide = Tree.linked("b", leaves(MIXED, 1, 9, 4))
        self.same(wide.with_key(4).content, (4, 4, 9))
        self.refused(InvalidOperation, wide.with_key, 5)

    def test_single_node_with_any_key(self):
        for key in (-GREAT, 0, GREAT):
            self.same(Tree(DOUBLE, 5).with_key(key).key, key)


class SignsTest(Case):
    def test_equal(self):
        for (tree, _), (other, _) in zip(many_drawn(seed=11), many_drawn(seed=11)):
            self.same([tree == other, tree != other], [True, False])
        trees = [tree for tree, _ in many_drawn(seed=13, many=40)]
        for one, other in itertools.product(trees, repeat=2):
            self.same(one == other, plain(one) == plain(other) and one.kinds == other.kinds)
        wider = Kinds("a", {"a": ("a", "a"), "b": ("a", "a")})
        self.same([Tree(DOUBLE, 5) == Tree(wider, 5), Tree(DOUBLE, 5) == Tree(DOUBLE, 6), Tree(DOUBLE, 5) == Tree(DOUBLE, 5)], [False, False, True])
        self.same(Tree.linked("a", leaves(wider, 1, 2)) == Tree.linked("b", leaves(wider, 1, 2)), False)

    def test_equal_to_no_other_value(self):
        tree = Tree(DOUBLE, 5)
        for value in (*STRANGE, 5, (5,), "a of rank 0 with 1 keys from 5 on", DOUBLE, tree.children):
            self.same([tree == value, tree != value, value == tree], [False, True, False])

    def test_keys_in_it(self):
        for tree, model in many_drawn(seed=17):
            for key in range(-5, 6):
                self.same(key in tree, key in keys_in(model))
        tree = Tree.linked("a", leaves(DOUBLE, 0, 1))
        self.same([0 in tree, 1 in tree, 2 in tree], [True, True, False])
        for value in (*STRANGE, (0,), [0], "0", tree, Tree(DOUBLE, 0)):
            self.same(value in tree, False)

    def test_content_beside_nodes(self):
        for tree, _ in many_drawn(seed=19, many=80):
            keys = [key for key, _ in nodes_of(tree)]
            nodes = nodes_of(tree)
            first = next(nodes)
            self.same([tree.content, tree.content], [tuple(sorted(keys))] * 2)
            self.same([key in tree for key in range(-4, 5)], [key in keys for key in range(-4, 5)])
            # A generator that is half gone through goes on as before.
            self.same([first, *nodes], list(nodes_of(tree)))

    def test_cannot_be_iterated_over(self):
        self.cannot_be_iterated_over(Tree(DOUBLE, 5))
        self.cannot_be_iterated_over(Tree.linked("a", leaves(DOUBLE, 0, 1)))

    def test_nodes_of_no_tree(self):
        for value in STRANGE:
            nodes_of(value)
            self.refused(InvalidTree, lambda: next(nodes_of(value)))

    def test_str(self):
        tree = Tree.linked("b", leaves(MIXED, 7, 6, 5))
        self.same([str(tree), str(Tree(CHAIN, -3))], ["b of rank 1 with 3 keys from 5 on", "a of rank 0 with 1 keys from -3 on"])

    def test_nothing_is_changed(self):
        one, other = leaves(DOUBLE, 5, 3)
        pair = Tree.linked("a", (one, other))
        before = plain(pair)
        pair.parted()
        pair.broken()
        pair.with_key(1)
        Tree.linked("a", (pair, pair))
        self.same([plain(pair), plain(one), plain(other)], [before, single("a", 5), single("a", 3)])
