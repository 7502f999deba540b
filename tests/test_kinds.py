"""Kinds and their lines: [0.2], [0.4], [0.7], [2.1] and stage 2."""

import itertools

import linkbooks.base.kinds as module
from linkbooks.base.kinds import Kinds
from linkbooks.base.ranks import Ranks
from linkbooks.errors import InvalidKinds, InvalidOperation, ParseError, UnknownName
from tests.helper import DEEP, GREAT, STRANGE, Case

PAIR = ("a", "a")


def three():
    return Kinds("a", {"b": ("a", "a"), "c": ("a", "b", "b")})


def six():
    return Kinds("a", {name: PAIR for name in "bcdef"})


class InterfaceTest(Case):
    def test_constants(self):
        self.same([module.MAX_KINDS, module.MAX_PARTS], [6, 3])

    def test_class_defines_all(self):
        self.defined_in(module, "Kinds")
        methods = {"from_lines": ["*lines"], "users": ["name"], "losers": ["name", "winner"], "renamed": ["names"]}
        self.methods_of(Kinds, methods, ("leaf", "makings", "names", "lines"))
        self.assertIsInstance(vars(Kinds)["from_lines"], classmethod)
        for name in ("__init__", "__getitem__", "__contains__", "__len__", "__eq__", "__str__"):
            self.assertIn(name, vars(Kinds))

    def test_example(self):
        kinds = three()
        found = [str(kinds), kinds.lines, kinds["a"], kinds.users("a"), kinds.losers("c", "b")]
        lines = ("leaf a", "kind b a+a", "kind c a+b+b")
        self.same(found, ["3 kinds, leaf a", lines, (), ("b", "c"), ("a", "b")])


class CreationTest(Case):
    def refuses(self, leaf, makings):
        self.refused(InvalidKinds, Kinds, leaf, makings)

    def test_a_leaf_alone(self):
        kinds = Kinds("leaf", {})
        self.same([kinds.leaf, kinds.makings, kinds.names, kinds.lines, len(kinds)], ["leaf", {}, ("leaf",), ("leaf leaf",), 1])

    def test_a_leaf_with_a_making(self):
        for making in (("a", "a"), ("a", "a", "a")):
            kinds = Kinds("a", {"a": making})
            self.same([kinds.leaf, kinds.makings, kinds.names, kinds["a"]], ["a", {"a": making}, ("a",), making])

    def test_one_to_six_kinds(self):
        self.same(six().names, ("a", "b", "c", "d", "e", "f"))
        self.same(Kinds("a", {name: PAIR for name in "abcdef"}).names, ("a", "b", "c", "d", "e", "f"))
        self.refuses("a", {name: PAIR for name in "bcdefg"})
        self.refuses("a", {name: PAIR for name in "abcdefg"})
        self.refuses("a", {name: PAIR for name in "abcdefghijklmnopqrstuvwxyz"})

    def test_kinds_that_never_exist(self):
        self.same(Kinds("a", {"b": ("b", "b")}).lines, ("leaf a", "kind b b+b"))
        self.same(Kinds("z", {"a": ("a", "z"), "b": ("c", "c"), "c": ("b", "b")}).names, ("a", "b", "c", "z"))

    def test_names_of_eight_letters(self):
        kinds = Kinds("abcdefgh", {"zyxwvuts": ("abcdefgh", "zyxwvuts")})
        self.same(kinds.lines, ("leaf abcdefgh", "kind zyxwvuts abcdefgh+zyxwvuts"))

    def test_leaf_that_is_no_name(self):
        for leaf in STRANGE:
            self.refuses(leaf, {})
            self.refuses(leaf, {"a": ("a", "a")})

    def test_makings_that_are_no_dict(self):
        for makings in STRANGE:
            if makings not in ({}, {"a": ("a", "a")}):
                self.refuses("a", makings)
        for makings in ([("b", PAIR)], (("b", PAIR),), "b", [], ()):
            self.refuses("a", makings)

    def test_keys_that_are_no_names(self):
        for key in STRANGE:
            if isinstance(key, (int, str, type(None))) or key in ((), ("a",), (0,), (None, True)):
                self.refuses("a", {key: PAIR})
                self.refuses("a", {"b": PAIR, key: PAIR})

    def test_makings_that_are_none(self):
        for making in STRANGE:
            if making != PAIR:
                self.refuses("a", {"a": making})
                self.refuses("a", {"b": PAIR, "c": making})

    def test_two_or_three_parts(self):
        for many in range(8):
            if many in (2, 3):
                self.same(Kinds("a", {"b": ("a",) * many})["b"], ("a",) * many)
            else:
                self.refuses("a", {"b": ("a",) * many})

    def test_making_is_sorted(self):
        for making in (("b", "a"), ("a", "b", "a"), ("b", "a", "b")):
            self.refuses("a", {"b": making})
            self.refuses("a", {"a": PAIR, "b": making})
        self.refuses("a", {"b": ["a", "a"]})

    def test_parts_are_kinds(self):
        self.refuses("a", {"b": ("a", "c")})
        self.refuses("a", {"a": ("a", "b")})
        self.refuses("c", {"b": ("a", "c")})
        self.refuses("a", {"b": ("a", "a"), "c": ("a", "b", "d")})
        self.refuses("a", {"b": ("a", "A")})
        self.refuses("a", {"b": ("a", ["a"])})

    def test_later_change_of_the_passed_dict(self):
        makings = {"c": ("a", "b", "b"), "b": ("a", "a")}
        kinds = Kinds("a", makings)
        self.same(makings, {"c": ("a", "b", "b"), "b": ("a", "a")})
        makings["d"] = ("a", "a")
        makings["b"] = ("a", "a", "a")
        del makings["c"]
        self.assertEqual(kinds, three())
        self.same(kinds.lines, three().lines)
        self.same([kinds["b"], kinds.names, "d" in kinds], [("a", "a"), ("a", "b", "c"), False])

    def test_later_change_of_the_returned_dict(self):
        kinds = three()
        makings = kinds.makings
        makings["d"] = ("a", "a")
        makings["b"] = ("a", "a", "a")
        del makings["c"]
        self.same(kinds.makings, {"b": ("a", "a"), "c": ("a", "b", "b")})
        self.assertEqual(kinds, three())
        self.same([kinds["b"], kinds["c"], kinds.users("b"), len(kinds)], [("a", "a"), ("a", "b", "b"), ("c",), 3])

    def test_order_of_the_dict_does_not_matter(self):
        items = [("f", ("a", "b")), ("b", PAIR), ("c", ("a", "f")), ("a", ("b", "c", "f"))]
        for order in itertools.permutations(items):
            kinds = Kinds("a", dict(order))
            self.same(list(kinds.makings), ["a", "b", "c", "f"])
            self.same(kinds.names, ("a", "b", "c", "f"))
            self.same(kinds.lines, ("leaf a", "kind a b+c+f", "kind b a+a", "kind c a+f", "kind f a+b"))
            self.assertEqual(kinds, Kinds("a", dict(items)))


class LinesTest(Case):
    def stops(self, index, *lines):
        self.refused_with(ParseError, "number", index, Kinds.from_lines, *lines)

    def test_lines_in_any_order(self):
        lines = ("leaf b", "kind a b+b", "kind b a+b", "kind c a+b+c")
        for order in itertools.permutations(lines):
            kinds = Kinds.from_lines(*order)
            self.same(kinds.lines, lines)
            self.same([kinds.leaf, kinds.makings], ["b", {"a": ("b", "b"), "b": ("a", "b"), "c": ("a", "b", "c")}])
            self.assertEqual(kinds, Kinds("b", kinds.makings))

    def test_lines_make_the_same_kinds(self):
        for kinds in (three(), six(), Kinds("a", {}), Kinds("kind", {"leaf": ("kind", "leaf"), "kind": ("leaf", "leaf")})):
            self.assertEqual(Kinds.from_lines(*kinds.lines), kinds)

    def test_each_value_that_is_no_line(self):
        for line in STRANGE:
            if line != "leaf a":
                self.stops(0, line)
                self.stops(0, line, "leaf a")
                self.stops(1, "leaf a", line)
                self.stops(2, "leaf a", "kind b a+a", line, "leaf a")
        self.stops(0, ("leaf a", "kind b a+a"))
        self.stops(0, ["leaf a"])

    def test_each_text_that_is_no_line(self):
        texts = (
            "leaf", "leaf ", "leaf  b", " leaf b", "leaf b ", "leaf b\n", "\nleaf b", "leaf\nb", "leaf\tb", "leafb",
            "leaf B", "leaf b1", "leaf b b", "leaf b+b", "leaf abcdefghi", "Leaf b", "LEAF b", "leaf 0",
            "leaf b b+b", "kind", "kind ", "kind b", "kind b ", "kind b 0", "kind b a", "kind b a+", "kind b +a",
            "kind b a++a", "kind b +", "kind b a+a+", "kind b a+a+a+a", "kind b b+a", "kind b a+b+a", "kind b a+A",
            "kind b a+1", "kind b a+abcdefghi", "kind b a +a", "kind b a+ a", "kind b a a", "kind b a+a ", "kind  b a+a",
            "kind b  a+a", " kind b a+a", "kind b a+a\n", "kind\nb a+a", "kind b\na+a", "kind b\n a+a", "kind b a\n+a",
            "kind B a+a", "kind b1 a+a", "kind abcdefghi a+a", "kind  a+a", "Kind b a+a", "kinds b a+a", "kind b a+a a",
            "kind b, a+a", "kind b a,a", "kind b a-a", "b a+a", "first s", "page m a+a to a then m", "read s a o",
        )
        for text in texts:
            self.stops(0, text)
            self.stops(2, "leaf a", "kind c a+a", text)

    def test_second_leaf(self):
        self.stops(1, "leaf a", "leaf a")
        self.stops(1, "leaf a", "leaf b")
        self.stops(2, "leaf a", "kind b a+a", "leaf b")
        self.stops(3, "kind b a+a", "leaf a", "kind c a+a", "leaf a")

    def test_second_line_of_a_kind(self):
        self.stops(1, "kind b a+a", "kind b a+a", "leaf a")
        self.stops(2, "leaf a", "kind b a+a", "kind b a+a+a")
        self.stops(3, "kind b a+a", "kind c a+a", "leaf a", "kind b a+c")

    def test_first_wrong_line_counts(self):
        self.stops(1, "leaf a", "leaf b", "what", "leaf c")
        self.stops(1, "leaf a", "what", "leaf b")
        self.stops(2, "kind b a+a", "leaf a", "kind b a+a", None)
        self.stops(0, None, "what")

    def test_wrong_lines_come_ahead_of_wrong_kinds(self):
        self.stops(1, "kind b c+c", "what")
        self.stops(8, *[f"kind {name} z+z" for name in "abcdefgh"], "kind a b+b")
        self.stops(2, "leaf a", "kind b c+d", "leaf b")

    def test_lines_of_no_kinds(self):
        self.refused(InvalidKinds, Kinds.from_lines)
        self.refused(InvalidKinds, Kinds.from_lines, "kind a a+a")
        self.refused(InvalidKinds, Kinds.from_lines, "leaf a", "kind b a+c")
        self.refused(InvalidKinds, Kinds.from_lines, "leaf a", *[f"kind {name} a+a" for name in "bcdefg"])
        self.same(Kinds.from_lines("leaf a", *[f"kind {name} a+a" for name in "bcdef"]).names, six().names)


class LookupTest(Case):
    def test_making_of_a_kind(self):
        kinds = three()
        self.same([kinds["a"], kinds["b"], kinds["c"]], [(), ("a", "a"), ("a", "b", "b")])

    def test_what_is_no_kind(self):
        kinds = three()
        for word in (*STRANGE, "d", "z", "aa", "leaf", 0, 1, GREAT):
            self.refused_with(UnknownName, "word", word, lambda: kinds[word])
            self.refused_with(UnknownName, "word", word, kinds.users, word)
            self.refused_with(UnknownName, "word", word, kinds.losers, word, "a")
            self.refused_with(UnknownName, "word", word, kinds.losers, word, word)
            self.same([word in kinds, word not in kinds], [False, True])
        self.assertEqual(kinds, three())

    def test_error_keeps_the_passed_value(self):
        kinds = three()
        for word in (DEEP, {}, kinds):
            with self.assertRaises(UnknownName) as caught:
                kinds[word]
            self.assertIs(caught.exception.word, word)
            self.assertIs(self.refused(UnknownName, kinds.users, word).word, word)

    def test_contains(self):
        kinds = three()
        self.same(["a" in kinds, "b" in kinds, "c" in kinds, "d" in kinds], [True, True, True, False])
        self.same(["b" in Kinds("a", {}), "a" in Kinds("a", {})], [False, True])

    def test_users(self):
        kinds = three()
        self.same([kinds.users("a"), kinds.users("b"), kinds.users("c")], [("b", "c"), ("c",), ()])
        other = Kinds("d", {"d": ("b", "d"), "b": ("d", "d", "d"), "a": ("a", "d")})
        self.same([other.users("a"), other.users("b"), other.users("d")], [("a",), ("d",), ("a", "b", "d")])
        self.same(six().users("a"), ("b", "c", "d", "e", "f"))

    def test_losers(self):
        kinds = three()
        found = [kinds.losers("b", "a"), kinds.losers("c", "a"), kinds.losers("c", "b")]
        self.same(found, [("a",), ("b", "b"), ("a", "b")])
        other = Kinds("a", {"a": ("a", "b", "c"), "b": ("a", "a", "a"), "c": ("a", "a", "b")})
        self.same([other.losers("a", winner) for winner in "abc"], [("b", "c"), ("a", "c"), ("a", "b")])
        self.same([other.losers("b", "a"), other.losers("c", "a"), other.losers("c", "b")], [PAIR, ("a", "b"), PAIR])

    def test_winner_that_is_no_part(self):
        kinds = three()
        for winner in (*STRANGE, "c", "d", "z", 0):
            self.refused(InvalidOperation, kinds.losers, "c", winner)
            self.refused(InvalidOperation, kinds.losers, "a", winner)
        self.refused(InvalidOperation, kinds.losers, "a", "a")
        self.refused(InvalidOperation, kinds.losers, "b", "b")
        self.assertEqual(kinds, three())


class RenamedTest(Case):
    def test_other_names(self):
        kinds = three().renamed({"a": "x", "b": "y", "c": "z"})
        self.same(kinds.lines, ("leaf x", "kind y x+x", "kind z x+y+y"))
        self.assertEqual(kinds, Kinds("x", {"y": ("x", "x"), "z": ("x", "y", "y")}))

    def test_makings_are_sorted_anew(self):
        kinds = three().renamed({"c": "a", "b": "k", "a": "z"})
        self.same(kinds.lines, ("leaf z", "kind a k+k+z", "kind k z+z"))
        self.same(kinds.names, ("a", "k", "z"))
        self.same(list(kinds.makings), ["a", "k"])

    def test_names_that_are_exchanged(self):
        kinds = three().renamed({"a": "b", "b": "a", "c": "c"})
        self.same(kinds.lines, ("leaf b", "kind a b+b", "kind c a+a+b"))
        self.assertEqual(kinds.renamed({"a": "b", "b": "a", "c": "c"}), three())
        turned = three().renamed({"a": "b", "b": "c", "c": "a"})
        self.same(turned.lines, ("leaf b", "kind a b+c+c", "kind c b+b"))

    def test_leaf_with_a_making(self):
        kinds = Kinds("a", {"a": ("a", "b"), "b": PAIR}).renamed({"a": "b", "b": "a"})
        self.same(kinds.lines, ("leaf b", "kind a b+b", "kind b a+b"))

    def test_same_names(self):
        self.assertEqual(three().renamed({"a": "a", "b": "b", "c": "c"}), three())

    def test_nothing_is_changed(self):
        kinds, names = three(), {"a": "b", "b": "a", "c": "x"}
        kinds.renamed(names)
        self.same(names, {"a": "b", "b": "a", "c": "x"})
        self.assertEqual(kinds, three())

    def test_what_is_no_renaming(self):
        kinds = three()
        for names in (*STRANGE, [("a", "x"), ("b", "y"), ("c", "z")], ("x", "y", "z"), "xyz",
                      {"a": "x", "b": "y"}, {"a": "x", "b": "y", "c": "z", "d": "w"}, {"a": "x", "b": "y", "d": "z"},
                      {"a": "x", "b": "x", "c": "z"}, {"a": "x", "b": "y", "c": "x"}, {"a": "b", "b": "b", "c": "c"},
                      {"a": "x", "b": "y", "c": "z", None: "w"}, {"a": "x", "b": "y", 0: "z"}):
            self.refused(InvalidOperation, kinds.renamed, names)
        for name in STRANGE:
            self.refused(InvalidOperation, kinds.renamed, {"a": "x", "b": "y", "c": name})
            self.refused(InvalidOperation, kinds.renamed, {"a": name, "b": "y", "c": "z"})
        self.assertEqual(kinds, three())


class SignsTest(Case):
    def test_len_and_str(self):
        self.same([len(three()), len(six()), len(Kinds("a", {"a": PAIR}))], [3, 6, 1])
        self.same([str(six()), str(Kinds("root", {})), str(Kinds("b", {"a": ("b", "b")}))],
                  ["6 kinds, leaf a", "1 kinds, leaf root", "2 kinds, leaf b"])

    def test_equal(self):
        for one, other in ((three(), three()), (six(), six()), (Kinds("a", {}), Kinds("a", {}))):
            self.same([one == other, one != other], [True, False])

    def test_not_equal(self):
        others = (
            Kinds("a", {"b": ("a", "a")}), Kinds("b", {"a": ("b", "b"), "c": ("a", "b", "b")}),
            Kinds("a", {"b": ("a", "a"), "c": ("a", "a", "b")}), Kinds("a", {"b": ("a", "a"), "c": ("a", "b")}),
            Kinds("a", {"b": ("a", "a"), "d": ("a", "b", "b")}), Kinds("c", {"b": ("a", "a"), "c": ("a", "b", "b"), "a": PAIR}),
            Kinds("a", {"a": PAIR, "b": ("a", "a"), "c": ("a", "b", "b")}),
        )
        for other in others:
            self.same([three() == other, three() != other], [False, True])
        one, other = Kinds("a", {"a": ("b", "b"), "b": ("a", "a")}), Kinds("b", {"a": ("b", "b"), "b": ("a", "a")})
        self.same([one == other, one != other], [False, True])

    def test_equal_to_no_other_value(self):
        kinds = three()
        for value in (*STRANGE, kinds.lines, kinds.names, kinds.makings, "3 kinds, leaf a", 3, Ranks(kinds)):
            self.same([kinds == value, kinds != value, value == kinds, value != kinds], [False, True, False, True])

    def test_cannot_be_iterated_over(self):
        kinds = three()
        for call in (iter, list, tuple, sorted, dict, enumerate, lambda value: [*value]):
            with self.assertRaises(TypeError):
                call(kinds)

    def test_equal_calls_return_equal_results(self):
        kinds = three()
        for _ in range(2):
            self.same(kinds.makings, {"b": ("a", "a"), "c": ("a", "b", "b")})
            self.same([kinds.names, kinds.users("a"), kinds.losers("c", "b")], [("a", "b", "c"), ("b", "c"), ("a", "b")])
