"""Integers, names and sorted tuples: [0.1], [0.4], [0.5], [0.7] and stage 1."""

import inspect

import linkbooks.base.words as words
from linkbooks.base.words import is_count, is_integer, is_name, is_sorted
from linkbooks.errors import InvalidNumber
from tests.helper import GREAT, STRANGE, TOO_GREAT, Case

LETTERS = "abcdefghijklmnopqrstuvwxyz"


class InterfaceTest(Case):
    def test_constants(self):
        self.same([words.MAX_LETTERS, words.MAX_FIGURES], [8, 60])

    def test_functions_are_defined_here(self):
        self.defined_in(words, "is_integer", "is_count", "is_name", "is_sorted")
        self.assertEqual(str(inspect.signature(is_integer)), "(value)")
        self.assertEqual(str(inspect.signature(is_count)), "(value)")
        self.assertEqual(str(inspect.signature(is_name)), "(value)")
        self.assertEqual(str(inspect.signature(is_sorted)), "(value, *, most)")

    def test_example(self):
        found = [is_integer(-7), is_count(True), is_name("Black"),
                 is_sorted(("a", "a"), most=3), is_sorted(("a", "b"), most=1)]
        self.same(found, [True, False, False, True, False])


class IntegerTest(Case):
    def test_integers_of_up_to_sixty_figures(self):
        for value in (0, 1, -1, 7, -7, 10 ** 59, -(10 ** 59), 2 ** 199, GREAT, -GREAT):
            self.same(is_integer(value), True)
            self.same(is_count(value), value >= 0)

    def test_longer_integers_are_none(self):
        for value in (TOO_GREAT, -TOO_GREAT, TOO_GREAT + 1, 2 ** 200, 10 ** 61, 10 ** 99, -(10 ** 99)):
            self.same(is_integer(value), False)
            self.same(is_count(value), False)

    def test_booleans_are_none(self):
        for value in (True, False):
            self.same(is_integer(value), False)
            self.same(is_count(value), False)

    def test_other_values_are_none(self):
        for value in ("", "1", "12", None, (), (1,), [1], {1: 1}, {}):
            self.same(is_integer(value), False)
            self.same(is_count(value), False)

    def test_every_value_is_judged(self):
        for value in STRANGE:
            whole = type(value) is int and abs(value) < TOO_GREAT
            self.same(is_integer(value), whole)
            self.same(is_count(value), whole and value >= 0)


class NameTest(Case):
    def test_each_letter_is_a_name(self):
        for letter in LETTERS:
            self.same(is_name(letter), True)
            self.same(is_name(letter * 8), True)
            self.same(is_name(letter * 9), False)

    def test_one_to_eight_letters(self):
        for many in range(12):
            self.same(is_name(LETTERS[:many]), 1 <= many <= 8)

    def test_each_other_sign_is_none(self):
        for sign in [chr(code) for code in range(300)] + ["\u0430", "\u03b1", "\uff41", "\u00e9", "\u00df", "\u00aa"]:
            if sign not in LETTERS:
                for text in (sign, "a" + sign, sign + "a", "a" + sign + "b", sign * 8):
                    self.same(is_name(text), False)

    def test_capitals_digits_and_blanks(self):
        for text in ("Black", "bLack", "blacK", "A", "a1", "1a", "1", "a b", " a", "a ", "a\n", "\na", "a_b", "a+a", "-"):
            self.same(is_name(text), False)

    def test_every_value_is_judged(self):
        for value in STRANGE:
            self.same(is_name(value), False)


class SortedTest(Case):
    def test_sorted_tuples_of_names(self):
        for value in (("a",), ("a", "a"), ("a", "b"), ("a", "a", "b"), ("a", "aa", "ab", "b"), ("abcdefgh", "b")):
            self.same(is_sorted(value, most=len(value)), True)
            self.same(is_sorted(value, most=GREAT), True)
            self.same(is_sorted(value, most=len(value) - 1), False)

    def test_the_empty_tuple(self):
        for most in (0, 1, 20):
            self.same(is_sorted((), most=most), True)

    def test_others_are_not_sorted(self):
        for value in (("b", "a"), ("a", "c", "b"), ("b", "a", "a"), ("b", "aa"), ("a", "b", "a")):
            self.same(is_sorted(value, most=3), False)

    def test_all_must_be_names(self):
        for value in (("A",), ("a", "b1"), ("",), ("a", "a" * 9), ("a", None), (None, "a"), (1, 2), (1,), (True,),
                      (("a",),), ("a", ["b"]), ({}, "a"), ("a", ("b",)), (TOO_GREAT,), ("a", "b\n")):
            self.same(is_sorted(value, most=3), False)

    def test_only_tuples_are(self):
        for value in (["a"], [], {}, {"a": "b"}, "a", "", "ab", None, 0, True):
            self.same(is_sorted(value, most=3), False)

    def test_every_value_is_judged(self):
        for value in STRANGE:
            self.same(is_sorted(value, most=3), value in ((), ("a",), ("a", "a")))

    def test_what_is_no_limit(self):
        for most in STRANGE:
            for value in (("a", "a"), (), ["b", "a"], None):
                self.refused_with(InvalidNumber, "value", most, is_sorted, value, most=most)

    def test_greatest_limit(self):
        self.same(is_sorted(("a",), most=GREAT), True)
        self.refused_with(InvalidNumber, "value", TOO_GREAT, is_sorted, ("a",), most=TOO_GREAT)
