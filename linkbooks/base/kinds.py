"""The kinds of trees and their makings."""

from linkbooks.base.lines import names_in, text_of, told_by, words_of
from linkbooks.base.words import is_name, is_sorted
from linkbooks.errors import InvalidKinds, InvalidOperation, UnknownName

MAX_KINDS = 6
MAX_PARTS = 3


def _is_making(value):
    """Whether the value is a sorted tuple of two or three names."""
    return is_sorted(value, most=MAX_PARTS) and len(value) >= 2


def _all_names(leaf, makings):
    """The ascending tuple of the leaf and of the kinds that have a making."""
    return tuple(sorted(set([leaf, *makings])))


def _are_kinds(leaf, makings):
    """Whether there are kinds with this leaf and these makings."""
    if not is_name(leaf) or not isinstance(makings, dict):
        return False
    if not all([is_name(name) and _is_making(makings[name]) for name in makings]):
        return False
    names = _all_names(leaf, makings)
    if len(names) > MAX_KINDS:
        return False
    return all([part in names for name in makings for part in makings[name]])


def _leaf_in(line):
    """The leaf that a line tells, or None if it is no line of a leaf."""
    words = words_of(line)
    if len(words) == 2 and words[0] == "leaf" and is_name(words[1]):
        return words[1]
    return None


def _making_in(line):
    """The pair of a kind and its making that a line tells, or None if it is no line of a kind."""
    words = words_of(line)
    if len(words) != 3 or words[0] != "kind" or not is_name(words[1]):
        return None
    making = names_in(words[2], most=MAX_PARTS)
    return (words[1], making) if making is not None and _is_making(making) else None


def kinds_line(line):
    """The pair of the place and of what a line of kinds tells there, or None if the value is no such line."""
    leaf = _leaf_in(line)
    if leaf is not None:
        return (("leaf",), leaf)
    told = _making_in(line)
    return (("kind", told[0]), told[1]) if told is not None else None


def is_renaming(names, kinds):
    """Whether the value is a dict from just these kinds to different names."""
    if not isinstance(names, dict) or len(names) != len(kinds):
        return False
    if not all([name in names and is_name(names[name]) for name in kinds]):
        return False
    return len({names[name] for name in kinds}) == len(kinds)


class Kinds:
    """The kinds of trees: the leaf, and the makings of kinds."""

    def __init__(self, leaf, makings):
        if not _are_kinds(leaf, makings):
            raise InvalidKinds("there are no kinds with this leaf and these makings")
        self._leaf = leaf
        self._makings = {name: makings[name] for name in sorted(makings)}
        self._names = _all_names(leaf, makings)

    @classmethod
    def from_lines(cls, *lines):
        """The kinds with these lines, in any order."""
        told = told_by(lines, kinds_line)
        makings = {place[1]: told[place] for place in told if place[0] == "kind"}
        return cls(told.get(("leaf",)), makings)

    @property
    def leaf(self):
        """The kind of a single node."""
        return self._leaf

    @property
    def makings(self):
        """The dict from kinds to their makings."""
        return dict(self._makings)

    @property
    def names(self):
        """The ascending tuple of the kinds."""
        return self._names

    @property
    def lines(self):
        """The line of the leaf, then those of the makings."""
        made = [f"kind {name} {text_of(self._makings[name])}" for name in self._makings]
        return (f"leaf {self._leaf}", *made)

    def users(self, name):
        """The ascending tuple of the kinds in whose making a kind is a part."""
        if name not in self._names:
            raise UnknownName(name)
        return tuple([user for user in self._makings if name in self._makings[user]])

    def losers(self, name, winner):
        """The making of a kind without one part."""
        making = self[name]
        if winner not in making:
            raise InvalidOperation("the winner is no part of the making")
        at = making.index(winner)
        return making[:at] + making[at + 1:]

    def renamed(self, names):
        """The kinds with other names, by a dict from just the kinds to different names."""
        if not is_renaming(names, self._names):
            raise InvalidOperation("this is no dict from just the kinds to different names")
        makings = {}
        for name in self._makings:
            makings[names[name]] = tuple(sorted([names[part] for part in self._makings[name]]))
        return Kinds(names[self._leaf], makings)

    def __contains__(self, value):
        return value in self._names

    def __getitem__(self, name):
        if name not in self._names:
            raise UnknownName(name)
        return self._makings.get(name, ())

    def __iter__(self):
        # Without this, Python would iterate by asking for kinds[0], kinds[1] and so on.
        raise TypeError("kinds cannot be iterated over")

    def __len__(self):
        return len(self._names)

    def __eq__(self, other):
        return isinstance(other, Kinds) and self._leaf == other._leaf and self._makings == other._makings

    def __str__(self):
        return f"{len(self._names)} kinds, leaf {self._leaf}"
