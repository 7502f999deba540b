"""Ranks: [0.4], [0.5], [0.8], [0.9], [0.13], [0.15] and stage 3."""

import itertools
import random

import linkbooks.base.ranks as module
from linkbooks.base.kinds import Kinds
from linkbooks.base.ranks import Ranks
from linkbooks.errors import InvalidKinds, InvalidNumber, InvalidOperation, TooMany, UnknownName
from tests.helper import GREAT, STRANGE, TOO_GREAT, Case

NOT_RANKS = STRANGE + ("1", "a", (0,), [0])

# Makings of the leaf "a" and others, with the turn and the period that follow.
KNOWN = (
    ({}, 1, 1),
    ({"a": "aa"}, 0, 1),
    ({"a": "aaa"}, 0, 1),
    ({"b": "aa"}, 2, 1),
    ({"b": "bb"}, 1, 1),
    ({"a": "aa", "b": "aa"}, 1, 1),
    ({"a": "ab", "b": "aa"}, 2, 1),
    ({"b": "aa", "c": "abb"}, 2, 1),
    ({"a": "bb", "b": "aaa"}, 0, 2),
    ({"a": "bc", "b": "aa", "c": "aaa"}, 0, 2),
    ({"a": "bb", "b": "cc", "c": "aaa"}, 0, 3),
    ({"a": "aa", "b": "aab", "c": "bb"}, 0, 1),
    ({"a": "aa", "b": "aaa", "c": "bb", "d": "abc"}, 3, 1),
    ({"a": "bb", "b": "aa", "c": "aaa", "d": "bc"}, 1, 2),
    ({"a": "bb", "b": "aa", "c": "aaa", "d": "bc", "e": "cdd"}, 1, 2),
    ({"a": "bb", "b": "aa", "c": "aa", "d": "bc", "e": "ccd", "f": "bd"}, 1, 2),
    ({"a": "ee", "b": "aa", "c": "bb", "d": "ccc", "e": "dd"}, 0, 5),
    ({"a": "ee", "b": "aa", "c": "bb", "d": "cc", "e": "dd", "f": "bbb"}, 0, 5),
    ({"a": "bb", "b": "aa", "c": "bb", "d": "ac", "e": "bd", "f": "cee"}, 4, 2),
    ({"a": "cc", "b": "aa", "c": "bb", "d": "cc", "e": "ad"}, 2, 3),
    ({"a": "cc", "b": "aa", "c": "bb", "d": "cc", "e": "ad", "f": "be"}, 3, 3),
    ({"a": "ff", "b": "aa", "c": "bbb", "d": "cc", "e": "ddd", "f": "ee"}, 0, 6),
    ({"b": "aa", "c": "bb", "d": "cc", "e": "dd", "f": "eee"}, 6, 1),
    ({"a": "aa", "b": "aaa", "c": "abb", "d": "acc", "e": "add", "f": "aee"}, 5, 1),
    ({"a": "cc", "b": "aa", "c": "bb", "d": "aaa", "e": "bd", "f": "cee"}, 1, 3),
)


def made(makings, leaf="a"):
    return Kinds(leaf, {name: tuple(makings[name]) for name in makings})


def three():
    return Ranks(made({"b": "aa", "c": "abb"}))


def odd():
    return Ranks(made({"a": "bb", "b": "aaa"}))


def forked():
    """From a at the rank 2n on a way leads through b or through c to a at the rank 2n + 2."""
    return Ranks(made({"a": "bc", "b": "aa", "c": "aaa"}))


def grown(kinds, ranks, grow):
    """Dicts from the kinds that exist at each rank, from rank to rank, to what grows by their parts."""
    rows = [{kinds.leaf: 1}]
    while len(rows) <= ranks:
        row = {}
        for name, making in kinds.makings.items():
            if all(part in rows[-1] for part in making):
                row[name] = grow(rows[-1], making)
        rows.append(row)
    return rows


def sizes(kinds, ranks):
    return grown(kinds, ranks, lambda below, making: sum(below[part] for part in making))


def counts(kinds, ranks):
    return grown(kinds, ranks, lambda below, making: sum(below[part] for part in set(making)))


def ways(kinds, rank):
    """All ways to trees of a rank, from all tuples of kinds."""
    rows = sizes(kinds, rank)
    for way in itertools.product(kinds.names, repeat=rank + 1):
        linked = all(low in kinds[high] for low, high in zip(way, way[1:]))
        if way[0] == kinds.leaf and linked and way[-1] in rows[rank]:
            yield way


def course(kinds):
    """The turn and the period, by what they are."""
    rows = [set(row) for row in sizes(kinds, 220)]
    for period in range(1, 100):
        for turn in range(100):
            if all(rows[rank] == rows[rank + period] for rank in range(turn, 120)):
                return turn, period
    raise AssertionError("no course")


def samples():
    """Many different kinds: the known ones, all of two kinds, some of three, some of up to six."""
    for makings, _, _ in KNOWN:
        yield made(makings)
    parts = {}
    for names in ("ab", "abc"):
        tuples = [*itertools.combinations_with_replacement(names, 2), *itertools.combinations_with_replacement(names, 3)]
        parts[names] = tuples
    for leaf in "ab":
        for one, other in itertools.product([None, *parts["ab"]], parts["ab"]):
            makings = {leaf: one, "ba"["ab".index(leaf)]: other}
            yield Kinds(leaf, {name: makings[name] for name in makings if makings[name]})
    for one, other, third in list(itertools.product([None, *parts["abc"]], parts["abc"], parts["abc"]))[::37]:
        makings = {"a": one, "b": other, "c": third}
        yield Kinds("a", {name: makings[name] for name in makings if makings[name]})
    yield from drawn(random.Random(15), 60)


def drawn(chance, many):
    """Kinds of up to six names, each one made of those that come just ahead of it, the first ones of the last ones."""
    for _ in range(many):
        names = "abcdef"[:chance.randrange(1, 7)]
        makings = {}
        for at, name in enumerate(names):
            near = [names[at - 1 - back] for back in range(min(len(names), chance.choice((1, 1, 2, 3))))]
            makings[name] = "".join(sorted(chance.choice(near) for _ in range(chance.choice((2, 3)))))
        if chance.randrange(4) == 0:
            del makings["a"]
        yield made(makings)


class InterfaceTest(Case):
    def test_constant(self):
        self.same(module.MAX_RANK, 402)

    def test_class_defines_all(self):
        self.defined_in(module, "Ranks")
        methods = {
            "base_of": ["rank"], "kinds_at": ["rank"], "size_of": ["name", "rank"], "ways_to": ["name", "rank"],
            "some_way": ["name", "rank", "number"], "is_way": ["value"], "children_of": ["way"],
        }
        self.methods_of(Ranks, methods, ("kinds", "turn", "period"))
        for name in ("__init__", "__len__", "__eq__", "__str__"):
            self.assertIn(name, vars(Ranks))

    def test_examples(self):
        ranks = odd()
        found = [ranks.turn, ranks.period, ranks.kinds_at(7), [ranks.size_of("a", rank) for rank in range(5)]]
        self.same([*found, ranks.size_of("b", 1)], [0, 2, ("b",), [1, None, 6, None, 36], 3])
        two = three()
        found = [str(two), two.kinds_at(1), two.kinds_at(2), two.ways_to("a", 0), ranks.children_of(("a", "b", "a"))]
        self.same(found, ["ranks from 2 on by 1", ("b",), (), 1, (("a", "a"), ("b",))])


class CreationTest(Case):
    def test_kinds_are_told(self):
        kinds = made({"b": "aa", "c": "abb"})
        self.assertEqual(Ranks(kinds).kinds, kinds)
        self.assertIsInstance(Ranks(kinds).kinds, Kinds)

    def test_what_are_no_kinds(self):
        for kinds in STRANGE:
            if not isinstance(kinds, Kinds):
                self.refused(InvalidKinds, Ranks, kinds)
        self.refused(InvalidKinds, Ranks, ("leaf a",))
        self.refused(InvalidKinds, Ranks, three())


class CourseTest(Case):
    def test_known_turns_and_periods(self):
        for makings, turn, period in KNOWN:
            ranks = Ranks(made(makings))
            self.same([ranks.turn, ranks.period, len(ranks)], [turn, period, turn + period])
            self.same(str(ranks), f"ranks from {turn} on by {period}")
            self.same(course(made(makings)), (turn, period))

    def test_turns_and_periods_of_many(self):
        for kinds in samples():
            ranks = Ranks(kinds)
            self.same((ranks.turn, ranks.period), course(kinds))
            self.same(len(ranks), ranks.turn + ranks.period)

    def test_bases_of_low_ranks(self):
        for makings, turn, period in KNOWN:
            ranks, wanted = Ranks(made(makings)), []
            while len(wanted) < 60:
                wanted.append(len(wanted) if len(wanted) < turn + period else wanted[-period])
            self.same([ranks.base_of(rank) for rank in range(60)], wanted)

    def test_bases_of_great_ranks(self):
        for makings, turn, period in KNOWN:
            ranks = Ranks(made(makings))
            for rank in (402, 403, 10 ** 20, 10 ** 59, *[GREAT - less for less in range(8)]):
                base = ranks.base_of(rank)
                self.assertTrue(turn <= base < turn + period)
                self.same((rank - base) % period, 0)
                self.same(ranks.kinds_at(rank), ranks.kinds_at(base))

    def test_kinds_at_low_ranks(self):
        for kinds in samples():
            ranks, rows = Ranks(kinds), sizes(kinds, 40)
            self.same([ranks.kinds_at(rank) for rank in range(41)], [tuple(sorted(row)) for row in rows])

    def test_kinds_at_great_ranks(self):
        self.same([odd().kinds_at(GREAT), odd().kinds_at(GREAT - 1)], [("b",), ("a",)])
        self.same([three().kinds_at(GREAT), forked().kinds_at(GREAT)], [(), ("b", "c")])
        self.same(Ranks(made({"a": "aa", "b": "aaa"})).kinds_at(GREAT), ("a", "b"))
        # 10 ** 60 - 1 is 3 beyond a multiple of 6.
        six = Ranks(made({"a": "ff", "b": "aa", "c": "bbb", "d": "cc", "e": "ddd", "f": "ee"}))
        self.same([six.kinds_at(GREAT - less) for less in range(6)], [("d",), ("c",), ("b",), ("a",), ("f",), ("e",)])

    def test_what_is_no_rank(self):
        for ranks in (odd(), three()):
            for rank in NOT_RANKS:
                self.refused_with(InvalidNumber, "value", rank, ranks.base_of, rank)
                self.refused_with(InvalidNumber, "value", rank, ranks.kinds_at, rank)


class SizeTest(Case):
    def test_sizes_of_many(self):
        for kinds in samples():
            ranks = Ranks(kinds)
            for rank, row in enumerate(sizes(kinds, 12)):
                for name in kinds.names:
                    self.same(ranks.size_of(name, rank), row.get(name))

    def test_sizes_at_all_ranks(self):
        for makings, _, _ in KNOWN:
            kinds = made(makings)
            ranks = Ranks(kinds)
            for rank, row in enumerate(sizes(kinds, 402)):
                self.same([ranks.size_of(name, rank) for name in kinds.names], [row.get(name) for name in kinds.names])

    def test_size_is_not_less_at_higher_ranks(self):
        for kinds in samples():
            ranks = Ranks(kinds)
            for name in kinds.names:
                found = [ranks.size_of(name, rank) for rank in range(30)]
                told = [size for size in found if size is not None]
                self.same(told, sorted(told))

    def test_highest_rank(self):
        binary, ternary = Ranks(made({"a": "aa"})), Ranks(made({"a": "aaa"}))
        self.same([binary.size_of("a", 402), ternary.size_of("a", 402)], [2 ** 402, 3 ** 402])
        self.same([odd().size_of("a", 402), odd().size_of("b", 401)], [6 ** 201, 3 * 6 ** 200])
        self.same([odd().size_of("b", 402), odd().size_of("a", 401), three().size_of("a", 402)], [None, None, None])

    def test_rank_above_the_highest(self):
        for rank in (403, 404, 10 ** 9, GREAT):
            for ranks in (odd(), three()):
                for name in ("a", "b"):
                    self.refused_with(TooMany, "limit", 402, ranks.size_of, name, rank)
                    self.refused_with(TooMany, "limit", 402, ranks.ways_to, name, rank)
                    self.refused_with(TooMany, "limit", 402, ranks.some_way, name, rank, 0)

    def test_order_of_errors(self):
        ranks = odd()
        for name in (*STRANGE, "c", "aa", 0):
            for rank in (0, 402, 403, -1, None, name):
                self.refused_with(UnknownName, "word", name, ranks.size_of, name, rank)
                self.refused_with(UnknownName, "word", name, ranks.ways_to, name, rank)
                self.refused_with(UnknownName, "word", name, ranks.some_way, name, rank, -1)
                self.refused_with(UnknownName, "word", name, ranks.some_way, name, rank, 0)
        for rank in NOT_RANKS:
            self.refused_with(InvalidNumber, "value", rank, ranks.size_of, "a", rank)
            self.refused_with(InvalidNumber, "value", rank, ranks.ways_to, "a", rank)
            self.refused_with(InvalidNumber, "value", rank, ranks.some_way, "a", rank, 0)
            self.refused_with(InvalidNumber, "value", rank, ranks.some_way, "a", rank, -2)
        for number in NOT_RANKS:
            self.refused_with(InvalidNumber, "value", number, ranks.some_way, "a", 0, number)
            self.refused_with(InvalidNumber, "value", number, ranks.some_way, "a", 403, number)
        self.refused_with(TooMany, "limit", 402, ranks.some_way, "a", 403, GREAT)
        self.refused_with(InvalidNumber, "value", GREAT, ranks.some_way, "a", 2, GREAT)


class WayTest(Case):
    def test_counts_of_many(self):
        for kinds in samples():
            ranks = Ranks(kinds)
            for rank, row in enumerate(counts(kinds, 12)):
                for name in kinds.names:
                    self.same(ranks.ways_to(name, rank), row.get(name, 0))

    def test_all_ways_at_low_ranks(self):
        for kinds in samples():
            ranks = Ranks(kinds)
            for rank in range(4):
                found = sorted(ways(kinds, rank))
                for name in kinds.names:
                    self.numbered(ranks, name, rank, [way for way in found if way[-1] == name])

    def numbered(self, ranks, name, rank, wanted):
        self.same(ranks.ways_to(name, rank), len(wanted))
        self.same([ranks.some_way(name, rank, number) for number in range(len(wanted))], wanted)
        for number in (len(wanted), len(wanted) + 1, GREAT):
            self.refused_with(InvalidNumber, "value", number, ranks.some_way, name, rank, number)

    def test_ways_that_fork(self):
        ranks = forked()
        wanted = [("a", *[name for step in steps for name in (step, "a")]) for steps in itertools.product("bc", repeat=6)]
        self.numbered(ranks, "a", 12, wanted)
        self.numbered(ranks, "b", 13, [(*way, "b") for way in wanted])
        self.numbered(ranks, "a", 11, [])
        self.numbered(ranks, "c", 0, [])

    def test_ways_to_mixed_kinds(self):
        kinds = made({"a": "bc", "b": "aa", "c": "aaa", "d": "bbc", "e": "ad", "f": "bce"})
        ranks = Ranks(kinds)
        for rank in (4, 5, 6):
            found = sorted(ways(kinds, rank))
            for name in kinds.names:
                self.numbered(ranks, name, rank, [way for way in found if way[-1] == name])
        many = ranks.ways_to("f", 60)
        self.assertGreater(many, 2 ** 29)
        for number in range(0, many - 1, many // 50):
            low, high = ranks.some_way("f", 60, number), ranks.some_way("f", 60, number + 1)
            self.assertLess(low, high)
            self.same([ranks.is_way(low), ranks.is_way(high), low[-1], len(high)], [True, True, "f", 61])

    def test_highest_rank(self):
        ranks = forked()
        self.same([ranks.ways_to("a", 402), ranks.ways_to("b", 401), ranks.ways_to("b", 402)], [2 ** 201, 2 ** 200, 0])
        for number in (0, 1, 2, 2 ** 100 + 5, 10 ** 59 + 7, GREAT):
            steps = ["bc"[number >> bit & 1] for bit in reversed(range(201))]
            wanted = ("a", *[name for step in steps for name in (step, "a")])
            self.same(ranks.some_way("a", 402, number), wanted)
            self.same(ranks.is_way(wanted), True)
        self.refused_with(InvalidNumber, "value", TOO_GREAT, ranks.some_way, "a", 402, TOO_GREAT)
        self.refused_with(InvalidNumber, "value", 0, ranks.some_way, "b", 402, 0)
        self.same(ranks.some_way("a", 100, 2 ** 50 - 1), ("a", *("c", "a") * 50))
        self.refused_with(InvalidNumber, "value", 2 ** 50, ranks.some_way, "a", 100, 2 ** 50)
        self.same(odd().some_way("a", 402, 0), ("a", *("b", "a") * 201))
        self.refused_with(InvalidNumber, "value", 1, odd().some_way, "a", 402, 1)

    def test_is_way_of_all_tuples(self):
        for makings, _, _ in KNOWN[:15]:
            kinds = made(makings)
            ranks = Ranks(kinds)
            for rank in range(4):
                wanted = {way: True for way in ways(kinds, rank)}
                for value in itertools.product(kinds.names, repeat=rank + 1):
                    self.same(ranks.is_way(value), value in wanted)

    def test_tree_must_exist(self):
        ranks = three()
        # The kind c needs a at rank 1, where only b exists.
        self.same([ranks.is_way(("a",)), ranks.is_way(("a", "b")), ranks.is_way(("a", "c"))], [True, True, False])
        self.same([ranks.is_way(("a", "b", "c")), ranks.ways_to("c", 2), ranks.ways_to("c", 1)], [False, 0, 0])
        self.refused(InvalidOperation, ranks.children_of, ("a", "b", "c"))

    def test_what_is_no_way(self):
        values = STRANGE + (
            (), ("b",), ("b", "a"), ("a", "a"), ("a", "b", "b"), ("a", "b", "a", "a"), ("a", "z"), ("z",), ["a"],
            ["a", "b"], "a", "ab", ("a", "b", None), ("a", ["b"]), ("a", {}), (["a"], "b"), ("a", "b", True), ("a", 0),
            ("a", ("b",)), (("a",),), ("a", "B"), {"a": "b"}, ("", "a"), ("a", odd(), "a"), (odd().kinds, "b"),
        )
        ranks = odd()
        for value in values:
            if value != ("a",):
                self.same(ranks.is_way(value), False)
                self.refused(InvalidOperation, ranks.children_of, value)
        self.same([ranks.is_way(("a",)), ranks.is_way(("a", "b")), ranks.is_way(("a", "b", "a"))], [True, True, True])

    def test_children(self):
        ranks = Ranks(made({"a": "abc", "b": "aaa", "c": "aab"}))
        self.same(ranks.children_of(("a",)), ())
        ranks = forked()
        self.same(ranks.children_of(("a", "b")), (("a",),))
        self.same(ranks.children_of(("a", "c")), (("a", "a"),))
        self.same(ranks.children_of(("a", "b", "a")), (("a",), ("c",)))
        self.same(ranks.children_of(("a", "c", "a", "c")), (("a", "a"), ("b",), ("a", "a")))
        mixed = Ranks(made({"a": "aa", "b": "aaa", "c": "abb", "d": "abc"}))
        self.same(mixed.children_of(("a", "b", "c", "d")), (("a", "a"), ("a", "b"), ("a", "b")))
        self.same(mixed.children_of(("a", "a", "c", "d")), (("a",), ("b", "b"), ("a", "b")))
        self.same(mixed.children_of(("a", "a", "b", "d")), (("a",), ("a", "a"), ("a", "c")))

    def test_children_have_the_other_nodes(self):
        for kinds in samples():
            ranks = Ranks(kinds)
            for rank in range(4):
                for way in ways(kinds, rank):
                    row = ranks.children_of(way)
                    self.same(len(row), rank)
                    keys = sum(ranks.size_of(name, at) for at, digit in enumerate(row) for name in digit)
                    self.same(keys, ranks.size_of(way[-1], rank) - 1)
                    for at, digit in enumerate(row):
                        self.same(digit, tuple(sorted(digit)))
                        self.same(tuple(sorted((*digit, way[at]))), kinds[way[at + 1]])

    def test_children_at_high_ranks(self):
        ranks = forked()
        for number in (0, 2 ** 100 + 5, GREAT):
            way = ranks.some_way("a", 402, number)
            row = ranks.children_of(way)
            wanted = [(("a",) if way[at] == "b" else ("a", "a"), ("c",) if way[at] == "b" else ("b",))
                      for at in range(1, 402, 2)]
            self.same(row, tuple(digit for pair in wanted for digit in pair))
        binary = Ranks(made({"a": "aa"}))
        for many in (1, 2, 401, 402, 403, 404, 900):
            self.same(binary.is_way(("a",) * many), True)
            self.same(binary.children_of(("a",) * many), (("a",),) * (many - 1))
        self.same(binary.is_way(("a",) * 900 + ("b",)), False)
        self.same(odd().is_way(("a", "b") * 450), True)
        self.same(odd().is_way(("a", "b") * 450 + ("b",)), False)


class SignsTest(Case):
    def test_equal(self):
        for one, other in ((three(), three()), (odd(), odd()), (Ranks(made({})), Ranks(made({})))):
            self.same([one == other, one != other], [True, False])

    def test_not_equal(self):
        self.same([three() == odd(), three() != odd()], [False, True])
        one, other = Ranks(made({"b": "aa"})), Ranks(made({"b": "aaa"}))
        self.same([one == other, one != other], [False, True])
        one, other = Ranks(made({"a": "aa"})), Ranks(made({"b": "bb"}, "b"))
        self.same([one == other, one != other], [False, True])

    def test_equal_to_no_other_value(self):
        ranks = three()
        for value in (*STRANGE, ranks.kinds, 3, str(ranks), (2, 1)):
            self.same([ranks == value, ranks != value, value == ranks, value != ranks], [False, True, False, True])

    def test_cannot_be_iterated_over(self):
        for call in (iter, list, tuple, sorted, dict, enumerate, lambda value: [*value]):
            with self.assertRaises(TypeError):
                call(three())

    def test_leaf_of_another_name(self):
        ranks = Ranks(made({"leaf": ("root", "root"), "root": ("leaf", "leaf", "leaf")}, "root"))
        self.same([ranks.kinds_at(0), ranks.kinds_at(1), ranks.some_way("root", 2, 0)],
                  [("root",), ("leaf",), ("root", "leaf", "root")])

    def test_refused_calls_change_nothing(self):
        ranks = forked()
        before = [str(ranks), len(ranks), ranks.ways_to("a", 20), ranks.some_way("a", 20, 77), ranks.kinds_at(GREAT)]
        self.refused(InvalidNumber, ranks.some_way, "a", 20, 2 ** 10)
        self.refused(TooMany, ranks.some_way, "a", 500, 3)
        self.refused(InvalidOperation, ranks.children_of, ("a", "a"))
        after = [str(ranks), len(ranks), ranks.ways_to("a", 20), ranks.some_way("a", 20, 77), ranks.kinds_at(GREAT)]
        self.same(after, before)
        self.assertEqual(ranks, forked())
