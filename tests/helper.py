"""What the tests of all modules share."""

import inspect
import unittest

from linkbooks.base.kinds import Kinds
from linkbooks.base.ranks import Ranks
from linkbooks.errors import InvalidKinds, ParseError, UnknownName

GREAT = 10 ** 60 - 1
TOO_GREAT = 10 ** 60
DEEP = [[[[[[[["a"]]]]]]]]

# Values of every sort that a call can be passed, and that are neither counts nor names.
STRANGE = (
    None, True, False, -1, -GREAT, TOO_GREAT, -TOO_GREAT, 10 ** 99, -(10 ** 99),
    "", " ", "\n", "A", "a1", "a b", "a\n", "0", "+", "a+a", "leaf a", "a" * 9, "a" * 4000, "~" * 4000,
    (), ("a",), ("a", "a"), (0,), (None, True), [], ["a"], [0], DEEP, (((((((("a",),),),),),),),),
    {}, {"a": "a"}, {"a": ("a", "a")}, {0: [{}]}, {("a",): {"a": ["a"]}},
    Kinds("zz", {}), Ranks(Kinds("zz", {})), InvalidKinds("a"), ParseError(None), UnknownName("a"),
)


class Case(unittest.TestCase):
    """A test with checks of errors and of the interface."""

    def refused(self, error, call, *args, **named):
        """The error with which a call is refused; it is of just this class."""
        with self.assertRaises(error) as caught:
            call(*args, **named)
        self.assertIs(type(caught.exception), error)
        return caught.exception

    def refused_with(self, error, name, value, call, *args, **named):
        """A call is refused with this error, which keeps just this value under this name."""
        kept = getattr(self.refused(error, call, *args, **named), name)
        self.assertIs(type(kept), type(value))
        self.assertEqual(kept, value)

    def same(self, found, wanted):
        """Two values are equal, and of one sort: True is not 1, and a list is no tuple."""
        self.assertEqual(repr(found), repr(wanted))
        self.assertEqual(found, wanted)

    def defined_in(self, module, *names):
        """These functions and classes are defined in this very module."""
        for name in names:
            self.assertEqual(getattr(module, name).__module__, module.__name__, name)

    def methods_of(self, owner, methods, properties):
        """A class defines these methods, each with its parameters, and properties in its own body."""
        for name, parameters in methods.items():
            self.assertIn(name, vars(owner))
            found = inspect.signature(getattr(owner, name)).parameters
            self.assertEqual([str(each) for each in found.values() if each.name != "self"], parameters, name)
        for name in properties:
            self.assertIsInstance(vars(owner)[name], property, name)
