"""What the tests of all modules share."""

import inspect
import unittest

from linkbooks.base.kinds import Kinds
from linkbooks.base.ranks import Ranks
from linkbooks.book.books import Book
from linkbooks.book.pages import Machine, Page
from linkbooks.errors import InvalidKinds, ParseError, UnknownName
from linkbooks.read.readers import Reader

GREAT = 10 ** 60 - 1
TOO_GREAT = 10 ** 60
DEEP = [[[[[[[["a"]]]]]]]]

BINOMIAL_LINES = (
    "leaf a", "kind a a+a", "first s", "ends o",
    "read s 0 z", "read s a o", "read z 0 z", "read z a o", "read o 0 z", "read o a o",
    "start put m", "start meld m", "start take m", "page m a+a to a then m", "page m a+a+a to a then m",
)
GUIDED_LINES = (
    "leaf a", "kind a a+a", "first s", "ends n z", "read s 0 y", "read s a n", "read y 0 y",
    "read y a z", "read y a+a n", "read z 0 y", "read z a z", "read z a+a n", "read n 0 y", "read n a n",
    "start put p", "start meld e", "start take e", "page p a to 0 then k", "page p a+a to a then d",
    "page k 0 to 0 then e", "page k a+a to a then d", "page d a to 0 then e", "page d a+a to 0 then e",
)
BINOMIAL = Book.from_lines(*BINOMIAL_LINES)
GUIDED = Book.from_lines(*GUIDED_LINES)

ZZ = Kinds("zz", {})
ZZ_READER = Reader("zz", ("yy",), {("zz", ("zz",)): "yy"})
ZZ_PAGE = Page("zz", ("zz", "zz"), (), "zz")
ZZ_MACHINE = Machine(ZZ, (ZZ_PAGE,))
ZZ_BOOK = Book(ZZ, ZZ_READER, ZZ_MACHINE, {"put": "zz", "meld": "zz", "take": "zz"})

# Values of every sort that a call can be passed, and that are neither counts nor names.
STRANGE = (
    None, True, False, -1, -GREAT, TOO_GREAT, -TOO_GREAT, 10 ** 99, -(10 ** 99),
    "", " ", "\n", "A", "a1", "a b", "a\n", "0", "+", "a+a", "leaf a", "a" * 9, "a" * 4000, "~" * 4000,
    (), ("a",), ("a", "a"), (0,), (None, True), [], ["a"], [0], DEEP, (((((((("a",),),),),),),),),
    {}, {"a": "a"}, {"a": ("a", "a")}, {0: [{}]}, {("a",): {"a": ["a"]}},
    ZZ, Ranks(ZZ), ZZ_READER, ZZ_PAGE, ZZ_MACHINE, ZZ_BOOK, (ZZ,), [ZZ_PAGE], {"a": ZZ_READER},
    InvalidKinds("a"), ParseError(None), UnknownName("a"),
)


class Case(unittest.TestCase):
    """A test with checks of errors and of the interface."""

    def refused(self, error, call, *args, **named):
        """The error with which a call is refused; it is of just this class."""
        with self.assertRaises(error) as caught:
            call(*args, **named)
        self.assertIs(type(caught.exception), error)
        return caught.exception

    def refused_with(self, error, name, value, call, *args, **named):
        """A call is refused with this error, which keeps just this value under this name."""
        kept = getattr(self.refused(error, call, *args, **named), name)
        self.assertIs(type(kept), type(value))
        self.assertEqual(kept, value)

    def same(self, found, wanted):
        """Two values are equal, and of one sort: True is not 1, and a list is no tuple."""
        self.assertEqual(repr(found), repr(wanted))
        self.assertEqual(found, wanted)

    def defined_in(self, module, *names):
        """These functions and classes are defined in this very module."""
        for name in names:
            self.assertEqual(getattr(module, name).__module__, module.__name__, name)

    def cannot_be_iterated_over(self, value):
        """Nothing goes over the value, not even bit by bit by its indexes."""
        for call in (iter, list, tuple, sorted, enumerate, lambda each: [*each]):
            with self.assertRaises(TypeError):
                call(value)

    def signature(self, call, wanted):
        """A function takes just these parameters."""
        self.assertEqual(str(inspect.signature(call)), wanted)

    def methods_of(self, owner, methods, properties):
        """A class defines these methods, each with its parameters, and properties in its own body."""
        for name, parameters in methods.items():
            self.assertIn(name, vars(owner))
            found = inspect.signature(getattr(owner, name)).parameters
            self.assertEqual([str(each) for each in found.values() if each.name != "self"], parameters, name)
        for name in properties:
            self.assertIsInstance(vars(owner)[name], property, name)
