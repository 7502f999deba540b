"""Promises [1.1] and [1.2]: the errors."""

import linkbooks.errors as errors
from tests.helper import STRANGE, Case

MESSAGED = (
    "InvalidKinds", "InvalidRow", "InvalidReader", "InvalidPage", "InvalidBook", "InvalidTree",
    "InvalidHeap", "InvalidPlan", "InvalidPaper", "InvalidOperation",
)
# Each other error with the class from which it is derived, and the name under which it keeps its value.
KEEPING = (
    ("UnknownName", KeyError, "word"),
    ("AbsentKey", KeyError, "absent"),
    ("EmptyHeap", LookupError, "deed"),
    ("InvalidNumber", IndexError, "value"),
    ("NothingToUndo", RuntimeError, "many"),
    ("TooMany", OverflowError, "limit"),
    ("Refused", ArithmeticError, "pledge"),
    ("Spoilt", ArithmeticError, "row"),
)
ALL = ("LinkError", "ParseError", *MESSAGED, *[name for name, _, _ in KEEPING])


class ErrorsTest(Case):
    def test_all_are_defined_here(self):
        self.defined_in(errors, *ALL)

    def test_link_error_is_a_value_error(self):
        self.assertEqual(errors.LinkError.__bases__, (ValueError,))
        with self.assertRaises(ValueError):
            raise errors.LinkError("some message")

    def test_invalid_ones_derive_directly_from_link_error(self):
        for name in (*MESSAGED, "ParseError"):
            self.assertEqual(getattr(errors, name).__bases__, (errors.LinkError,), name)

    def test_others_derive_directly_from_errors_of_python(self):
        for name, base, _ in KEEPING:
            self.assertEqual(getattr(errors, name).__bases__, (base,), name)
            self.assertFalse(issubclass(getattr(errors, name), errors.LinkError), name)

    def test_no_error_is_another(self):
        for name in ALL[1:]:
            for other in ALL[1:]:
                derived = issubclass(getattr(errors, name), getattr(errors, other))
                self.assertEqual(derived, name == other, (name, other))

    def test_invalid_ones_take_a_message(self):
        for name in MESSAGED:
            with self.assertRaises(errors.LinkError) as caught:
                raise getattr(errors, name)("some message")
            self.assertIs(type(caught.exception), getattr(errors, name))

    def test_parse_error_keeps_its_number(self):
        for number in (None, 0, 1, 17):
            self.same(errors.ParseError(number).number, number)

    def test_others_keep_what_they_take(self):
        for name, _, kept in KEEPING:
            for value in (*STRANGE, 0, 402, "put", ("good", "put")):
                self.assertIs(getattr(getattr(errors, name)(value), kept), value, name)

    def test_each_keeps_its_own(self):
        one, other = errors.UnknownName("a"), errors.UnknownName(["b"])
        self.same([one.word, other.word], ["a", ["b"]])

    def test_others_are_caught_as_errors_of_python(self):
        for name, base, kept in KEEPING:
            with self.assertRaises(base) as caught:
                raise getattr(errors, name)((1, 2))
            self.same(getattr(caught.exception, kept), (1, 2))
