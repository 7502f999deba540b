"""How lines are read: each one fills a place, and no two lines fill the same."""

from linkbooks.base.words import is_sorted
from linkbooks.errors import ParseError


def words_of(line):
    """The words of a line between single blanks; none if the value is no string."""
    return line.split(" ") if isinstance(line, str) else []


def names_in(text, *, most):
    """The sorted tuple of at most so many names that a text tells, or None if it tells none."""
    if not isinstance(text, str):
        return None
    names = () if text == "0" else tuple(text.split("+"))
    return names if is_sorted(names, most=most) else None


def text_of(names):
    """The text of a sorted tuple of names."""
    return "+".join(names) if names else "0"


def told_by(lines, tell):
    """The dict from the places of lines to what they tell there. For a value, `tell` returns the pair of both, or
    None if it is no line."""
    told = {}
    for index, line in enumerate(lines):
        found = tell(line)
        if found is None or found[0] in told:
            raise ParseError(index)
        told[found[0]] = found[1]
    return told
