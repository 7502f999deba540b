"""Digits and rows: [0.4], [0.5], [0.8], [0.9], [0.15], [0.21], [4.1] and stage 4."""

import itertools
import random

import linkbooks.base.rows as module
from linkbooks.base.kinds import Kinds
from linkbooks.base.ranks import Ranks
from linkbooks.base.rows import (
    added, is_digit, is_loose, is_row, keys_of, read_digit, read_row, trees_of, trimmed, write_digit, write_row,
)
from linkbooks.errors import InvalidKinds, InvalidRow, ParseError
from tests.helper import DEEP, STRANGE, Case
from tests.test_ranks import KNOWN, made, samples, sizes

A = ("a",)
LONG = tuple("abcdefghijklmnopqrst")
LONGER = (*LONG, "u")
CHAIN = Kinds("a", {"b": ("a", "a"), "c": ("a", "b", "b")})
ODD = Kinds("a", {"a": ("b", "b"), "b": ("a", "a", "a")})
DOUBLE = Kinds("a", {"a": ("a", "a")})

DIGITS = ((), A, ("a", "a"), ("a", "a", "a"), ("a", "b"), ("a", "b", "b"), ("zyxwvuts",), ("abcdefgh",) * 3)
LOOSE_DIGITS = (*DIGITS, ("a",) * 4, ("a", "b", "c", "d"), LONG, ("b",) * 20)
NO_LOOSE_DIGITS = (
    LONGER, ("a",) * 21, ("b", "a"), ("a", "c", "b"), ("A",), ("a1",), ("",), ("a" * 9,), ("a", None), (0,), (True,),
    ((),), (("a",),), ["a"], ("a", ["a"]), "a", "aa", 0, None, {"a": "a"}, {}, [], ("0",), ("a+a",),
)
# Loose rows with kinds that are any names.
ROWS = (
    (), (A,), ((), A), (A, (), A), (("a", "a"), (), ("b",)), (LONG,), ((), LONG, ("a",) * 4), ((),) * 9 + (("x",),),
)
NO_ROWS = (
    ((),), (A, ()), (A, (), ()), [A], (["a"],), (A, None), ("a",), "a", "", None, 0, True, {}, {0: A}, A, (A, LONGER),
    (("b", "a"),), (("a", "A"),), ((("a",),),), (A, 0), (A, False), DEEP,
)


def row_of(ranks, digit=A):
    """A row with so many ranks, that has nothing but its last digit."""
    return ((),) * (ranks - 1) + (digit,)


def kinds_by_rank(kinds, ranks):
    """The kinds that exist at each rank, from rank to rank."""
    return [sorted(row) for row in sizes(kinds, ranks)]


class InterfaceTest(Case):
    def test_constants(self):
        self.same([module.MAX_DIGIT, module.MAX_RANKS], [3, 400])

    def test_functions_are_defined_here(self):
        for name in ("is_digit", "is_loose"):
            self.signature(getattr(module, name), "(value)")
        for name in ("read_digit", "read_row"):
            self.signature(getattr(module, name), "(text)")
        for name in ("write_row", "trees_of"):
            self.signature(getattr(module, name), "(row)")
        self.signature(is_row, "(kinds, value)")
        self.signature(write_digit, "(digit)")
        self.signature(trimmed, "(digits)")
        self.signature(keys_of, "(kinds, row)")
        self.signature(added, "(one, other)")
        self.defined_in(module, "is_digit", "is_loose", "is_row", "write_digit", "read_digit", "write_row", "read_row",
                        "trimmed", "keys_of", "trees_of", "added")

    def test_examples(self):
        found = [read_row("a+a 0 b"), write_row(()), trimmed((("a",), (), ())), trees_of(read_row("a+a 0 b"))]
        self.same(found, [(("a", "a"), (), ("b",)), "-", (("a",),), 3])
        found = [keys_of(ODD, read_row("a b+b a")), is_row(CHAIN, read_row("0 0 c")), added(read_row("a"), read_row("a b"))]
        self.same(found, [13, False, (("a", "a"), ("b",))])


class DigitTest(Case):
    def test_up_to_three_names(self):
        for digit in DIGITS:
            self.same(is_digit(digit), True)
        for digit in LOOSE_DIGITS[len(DIGITS):]:
            self.same(is_digit(digit), False)

    def test_what_is_no_digit(self):
        for value in NO_LOOSE_DIGITS:
            self.same(is_digit(value), False)
        for value in STRANGE:
            self.same(is_digit(value), value in ((), ("a",), ("a", "a")) and isinstance(value, tuple))

    def test_all_short_tuples(self):
        for many in range(5):
            for value in itertools.product(("a", "b", "ab", "B"), repeat=many):
                wanted = many <= 3 and "B" not in value and list(value) == sorted(value)
                self.same(is_digit(value), wanted)


class LooseTest(Case):
    def test_loose_rows(self):
        for row in ROWS:
            self.same(is_loose(row), True)

    def test_what_is_no_loose_row(self):
        for value in NO_ROWS:
            self.same(is_loose(value), False)
        for digit in NO_LOOSE_DIGITS:
            self.same([is_loose((digit,)), is_loose((A, digit, A)), is_loose((A, digit))], [False] * 3)
        for value in STRANGE:
            self.same(is_loose(value), value == () and isinstance(value, tuple))

    def test_digits_of_up_to_twenty_names(self):
        for digit in LOOSE_DIGITS[1:]:
            self.same([is_loose((digit,)), is_loose((digit, digit))], [True, True])
        for many in (3, 4, 19, 20, 21, 22):
            self.same(is_loose((("a",) * many,)), many <= 20)

    def test_up_to_402_ranks(self):
        for ranks in (1, 399, 400, 401, 402, 403, 404):
            self.same(is_loose(row_of(ranks)), ranks <= 402)
            self.same(is_loose((A,) * ranks), ranks <= 402)

    def test_last_digit_is_not_empty(self):
        for row in ROWS:
            for many in (1, 2, 100):
                self.same(is_loose(row + ((),) * many), False)


class RowTest(Case):
    def test_kinds_exist_at_their_ranks(self):
        for makings, _, _ in KNOWN:
            kinds = made(makings)
            for rank, existing in enumerate(kinds_by_rank(kinds, 20)):
                for name in kinds.names:
                    self.same(is_row(kinds, row_of(rank + 1, (name,))), name in existing)

    def test_many_kinds(self):
        for kinds in samples():
            by_rank = kinds_by_rank(kinds, 9)
            for rank, existing in enumerate(by_rank):
                found = [name for name in kinds.names if is_row(kinds, row_of(rank + 1, (name,)))]
                self.same(found, existing)

    def test_each_digit_counts(self):
        by_rank = kinds_by_rank(ODD, 3)
        self.same(by_rank, [["a"], ["b"], ["a"], ["b"]])
        for row in itertools.product(((), ("a",), ("b",), ("a", "b"), ("b", "b")), repeat=3):
            wanted = row[-1] != () and all(name in here for digit, here in zip(row, by_rank) for name in digit)
            self.same(is_row(ODD, row), wanted)

    def test_digits_of_up_to_three(self):
        for many in (1, 2, 3, 4, 20):
            self.same([is_row(DOUBLE, (A * many,)), is_row(DOUBLE, (A * many, A))], [many <= 3] * 2)

    def test_up_to_400_ranks(self):
        for ranks in (1, 2, 399, 400, 401, 402, 403):
            self.same([is_row(DOUBLE, row_of(ranks)), is_row(DOUBLE, (A,) * ranks)], [ranks <= 400] * 2)
        # The other one of two kinds exists at odd ranks.
        self.same([is_row(ODD, row_of(400, ("b",))), is_row(ODD, row_of(399))], [True, True])
        self.same([is_row(ODD, row_of(400)), is_row(ODD, row_of(399, ("b",)))], [False, False])

    def test_empty_digits(self):
        self.same([is_row(DOUBLE, ()), is_row(CHAIN, ()), is_row(DOUBLE, ((), (), A))], [True] * 3)
        self.same([is_row(DOUBLE, ((),)), is_row(DOUBLE, (A, ())), is_row(DOUBLE, ((), A, (), ()))], [False] * 3)

    def test_what_is_no_row(self):
        for value in (*NO_ROWS, *[(digit,) for digit in NO_LOOSE_DIGITS], (("b",),), (("a", "z"),), (("z",), A)):
            self.same(is_row(DOUBLE, value), False)
        for value in STRANGE:
            self.same(is_row(DOUBLE, value), value == () and isinstance(value, tuple))

    def test_no_kinds(self):
        for value in STRANGE:
            if not isinstance(value, Kinds):
                self.refused(InvalidKinds, is_row, value, ())
                self.refused(InvalidKinds, is_row, value, None)
        self.refused(InvalidKinds, is_row, Ranks(DOUBLE), ())


class TextTest(Case):
    def test_digits_there_and_back(self):
        for digit in LOOSE_DIGITS:
            text = "+".join(digit) or "0"
            self.same([write_digit(digit), read_digit(text)], [text, digit])

    def test_rows_there_and_back(self):
        for row in (*ROWS, row_of(402), (LONG,) * 402, row_of(402, LONG)):
            text = " ".join("+".join(digit) or "0" for digit in row) or "-"
            self.same([write_row(row), read_row(text)], [text, row])

    def test_known_texts(self):
        known = (("-", ()), ("a", (A,)), ("0 a", ((), A)), ("a+a+b 0 0 c", (("a", "a", "b"), (), (), ("c",))))
        for text, row in known:
            self.same([write_row(row), read_row(text)], [text, row])

    def test_digits_that_cannot_be_written(self):
        for value in NO_LOOSE_DIGITS:
            self.refused(InvalidRow, write_digit, value)
        for value in STRANGE:
            if not (isinstance(value, tuple) and value in ((), ("a",), ("a", "a"))):
                self.refused(InvalidRow, write_digit, value)

    def test_rows_that_cannot_be_written(self):
        for value in (*NO_ROWS, row_of(403), *[(digit, A) for digit in NO_LOOSE_DIGITS]):
            self.refused(InvalidRow, write_row, value)
        for value in STRANGE:
            if not (isinstance(value, tuple) and value == ()):
                self.refused(InvalidRow, write_row, value)

    def test_texts_of_no_digit(self):
        texts = ("", "-", "00", "0+0", "0+a", "a+0", "+", "a+", "+a", "a++a", "b+a", "a+c+b", "a a", " a", "a ", "a\n",
                 "a + a", "A", "a1", "abcdefghi", "a,a", "a-a", "+".join(LONGER), "+".join("a" * 21), "a" * 4000)
        for text in (*texts, *STRANGE, A, ("0",), ["0"], 0, b"0"):
            if text not in ("0", "a+a"):
                self.refused_with(ParseError, "number", None, read_digit, text)

    def test_texts_of_no_row(self):
        texts = ("", " ", "0", "0 0", "a 0", "a 0 0", "- -", "- a", "a -", "--", "-0", "a  a", " a", "a ", "a\n", "\na",
                 "a\ta", "a\na", "b+a", "0 b+a", "a A", "a,a", "a+ a", "a + a", "1", "+".join(LONGER),
                 "a " + "+".join("a" * 21), "0 " * 402 + "a", " ".join("a" * 403))
        for text in (*texts, *STRANGE, ROWS[2], [A], ("-",), ["-"], b"-"):
            if text not in ("a+a", "a b", "leaf a"):
                self.refused_with(ParseError, "number", None, read_row, text)

    def test_one_sign_put_in_left_out_or_exchanged(self):
        for row in ((("a", "a"), (), ("b",)), (("ab", "b"), ("a",)), ((), (), ("a", "a", "c"))):
            text = write_row(row)
            near = {text}
            for at, sign in itertools.product(range(len(text) + 1), "ab0+- \nA1"):
                near.update((text[:at] + sign + text[at:], text[:at] + text[at + 1:], text[:at] + sign + text[at + 1:]))
            for other in near:
                self.reads_by_rule(other)

    def reads_by_rule(self, text):
        """A text is read just as its digits tell, each one for itself."""
        digits = [() if word == "0" else tuple(word.split("+")) for word in text.split(" ")]
        names = [name for digit in digits for name in digit]
        known = all(name and set(name) <= set("ab") for name in names) or text == "-"
        known = known or all(name and set(name) <= set("abc") for name in names)
        ordered = all(list(digit) == sorted(digit) for digit in digits)
        if text == "-":
            self.same(read_row(text), ())
        elif known and ordered and digits[-1] != ():
            self.same(read_row(text), tuple(digits))
        else:
            self.refused_with(ParseError, "number", None, read_row, text)

    def test_digits_in_many_blanks(self):
        for blank in ("  ", "\t", "\n", ", ", "", " + "):
            self.refused(ParseError, read_row, f"0{blank}a")
            self.refused(ParseError, read_row, f"a+b{blank}a+b")


class TrimmedTest(Case):
    def test_empty_digits_at_the_end(self):
        for row in ROWS:
            for many in (0, 1, 2, 50):
                self.same(trimmed(row + ((),) * many), row)

    def test_inner_ones_stay(self):
        self.same(trimmed(((), A, (), LONG, ())), ((), A, (), LONG))

    def test_long_tuples(self):
        self.same([trimmed(((),) * 402), trimmed((A,) + ((),) * 402)], [(), (A,)])

    def test_what_is_none(self):
        for value in STRANGE:
            if not (isinstance(value, tuple) and value == ()):
                self.refused(InvalidRow, trimmed, value)
        for digit in NO_LOOSE_DIGITS:
            self.refused(InvalidRow, trimmed, (digit,))
            self.refused(InvalidRow, trimmed, (A, digit, ()))
        self.refused(InvalidRow, trimmed, [A])
        self.refused(InvalidRow, trimmed, [])


class KeysTest(Case):
    def test_each_kind_at_each_rank(self):
        for makings, _, _ in KNOWN:
            kinds = made(makings)
            for rank, here in enumerate(sizes(kinds, 12)):
                for name in kinds.names:
                    row = row_of(rank + 1, (name,))
                    if name in here:
                        self.same(keys_of(kinds, row), here[name])
                    else:
                        self.refused(InvalidRow, keys_of, kinds, row)

    def test_sums(self):
        chance = random.Random(4)
        for makings, _, _ in KNOWN:
            kinds = made(makings)
            by_rank = [row for row in sizes(kinds, 8) if row]
            for _ in range(5):
                row = [tuple(sorted(chance.choices(sorted(here), k=chance.randrange(21)))) for here in by_rank]
                row[-1] = row[-1] or (min(by_rank[-1]),)
                wanted = sum(here[name] for digit, here in zip(row, by_rank) for name in digit)
                self.same([keys_of(kinds, tuple(row)), trees_of(tuple(row))], [wanted, sum(map(len, row))])

    def test_great_rows(self):
        self.same([keys_of(DOUBLE, row_of(ranks)) for ranks in (1, 200, 400, 401, 402)],
                  [2 ** (ranks - 1) for ranks in (1, 200, 400, 401, 402)])
        self.same(keys_of(DOUBLE, (A * 20,) * 402), 20 * (2 ** 402 - 1))
        self.same(trees_of((A * 20,) * 402), 8040)
        self.same([keys_of(DOUBLE, ()), trees_of(())], [0, 0])

    def test_what_does_not_exist(self):
        for row in ((("b",),), (A, A), (A, ("c",)), (("a", "z"),), (A, ("b",), (), ("b",)), (A, ("b",), ("a",))):
            self.refused(InvalidRow, keys_of, CHAIN, row)
        # A row with such kinds has trees all the same.
        self.same([trees_of((("b",),)), trees_of((A, A)), trees_of((("a", "z"),))], [1, 2, 2])

    def test_what_is_no_loose_row(self):
        for value in (*NO_ROWS, row_of(403)):
            self.refused(InvalidRow, keys_of, DOUBLE, value)
            self.refused(InvalidRow, trees_of, value)
        for value in STRANGE:
            if not (isinstance(value, tuple) and value == ()):
                self.refused(InvalidRow, keys_of, DOUBLE, value)
                self.refused(InvalidRow, trees_of, value)

    def test_kinds_come_first(self):
        for value in (None, "a", 0, ODD.lines, Ranks(ODD), {}, []):
            self.refused(InvalidKinds, keys_of, value, (A,))
            self.refused(InvalidKinds, keys_of, value, None)


class AddedTest(Case):
    def test_all_short_rows(self):
        digits = ((), A, ("b",), ("a", "b"))
        rows = [row for many in range(3) for row in itertools.product(digits, repeat=many) if row[-1:] != ((),)]
        for one, other in itertools.product(rows, repeat=2):
            pairs = itertools.zip_longest(one, other, fillvalue=())
            self.same(added(one, other), tuple(tuple(sorted(low + high)) for low, high in pairs))

    def test_order_does_not_matter(self):
        for one, other in itertools.product((*ROWS[:5], ROWS[7]), repeat=2):
            self.same(added(one, other), added(other, one))
            self.same(trees_of(added(one, other)), trees_of(one) + trees_of(other))
        one, other, third = (A, ("b",)), ((), A), (("b",), (), A)
        self.same(added(added(one, other), third), added(one, added(third, other)))

    def test_the_empty_row(self):
        for row in (*ROWS, row_of(402, LONG)):
            self.same([added(row, ()), added((), row)], [row, row])

    def test_keys_are_added(self):
        one, other = read_row("a+a a 0 a"), read_row("a a+a+a")
        self.same(keys_of(DOUBLE, added(one, other)), keys_of(DOUBLE, one) + keys_of(DOUBLE, other))

    def test_twenty_and_twenty_one_names(self):
        self.same(added((A * 17,), (A * 3,)), (A * 20,))
        self.same(added(((), ("a",) * 10), (A, ("b",) * 10)), (A, ("a",) * 10 + ("b",) * 10))
        self.refused(InvalidRow, added, (A * 18,), (A * 3,))
        self.refused(InvalidRow, added, (LONG,), (A,))
        self.refused(InvalidRow, added, (A,), (LONG, A))
        self.refused(InvalidRow, added, ((), LONG, A), ((), A))

    def test_what_is_no_loose_row(self):
        for value in (*NO_ROWS, row_of(403)):
            self.refused(InvalidRow, added, value, (A,))
            self.refused(InvalidRow, added, (A,), value)
        for value in STRANGE:
            if not (isinstance(value, tuple) and value == ()):
                self.refused(InvalidRow, added, value, ())
                self.refused(InvalidRow, added, (), value)

    def test_nothing_is_changed(self):
        one, other = (A, ("b",)), (("b",), (), A)
        added(one, other)
        self.same([one, other], [(A, ("b",)), (("b",), (), A)])
