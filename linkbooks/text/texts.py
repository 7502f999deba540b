"""Texts of books, deeds, stands and papers."""

from linkbooks.base.lines import names_in, text_of, words_of
from linkbooks.base.rows import MAX_RANKS, is_loose, read_row, write_row
from linkbooks.base.words import MAX_FIGURES, is_count, is_name, is_sorted
from linkbooks.book.books import Book, check_book
from linkbooks.book.pages import MAX_MADE
from linkbooks.errors import InvalidOperation, InvalidPaper, ParseError

# What stands for an empty text among words.
_EMPTY = "."
_ENDS = {"yes": True, "no": False}


def count_in(word):
    """The integer of at least 0 that a text tells, None if it tells none."""
    if not word.isascii() or not word.isdigit() or len(word) > MAX_FIGURES:
        return None
    return int(word) if word == "0" or not word.startswith("0") else None


def write_book(book):
    """The text of a book."""
    check_book(book)
    return "\n".join(book.lines)


def read_book(text):
    """The book with a text."""
    if not isinstance(text, str):
        raise ParseError(None)
    lines = text.split("\n")
    return Book.from_lines(*lines)


def _is_way_form(rank, way):
    """Whether these are a rank from 0 to 400 and a tuple of names, one for each rank up to it."""
    if not is_count(rank) or rank > MAX_RANKS or not isinstance(way, tuple):
        return False
    return len(way) == rank + 1 and all([is_name(name) for name in way])


def has_deed_form(value):
    """Whether the value is a tuple that has the form of a deed."""
    if not isinstance(value, tuple) or not 1 <= len(value) <= 3:
        return False
    if len(value) == 1:
        return value[0] == "put"
    if len(value) == 2:
        return value[0] == "meld" and is_loose(value[1])
    return value[0] == "take" and _is_way_form(value[1], value[2])


def write_deed(deed):
    """The text of a deed."""
    if not has_deed_form(deed):
        raise InvalidOperation("this does not have the form of a deed")
    if deed[0] == "put":
        return "put"
    if deed[0] == "meld":
        return f"meld {write_row(deed[1])}"
    way = ">".join(deed[2])
    return f"take {deed[1]} {way}"


def read_deed(text):
    """The deed with a text."""
    if text == "put":
        return ("put",)
    words = words_of(text)
    if len(words) > 1 and words[0] == "meld":
        return ("meld", read_row(" ".join(words[1:])))
    if len(words) != 3:
        raise ParseError(None)
    deed = (words[0], count_in(words[1]), tuple(words[2].split(">")))
    if not has_deed_form(deed):
        raise ParseError(None)
    return deed


def _is_entry(value):
    """Whether the value is a name or an empty text."""
    return value == "" or is_name(value)


def _has_stand_form(value):
    """Whether the value is a tuple that has the form of a stand."""
    if not isinstance(value, tuple) or len(value) != 6:
        return False
    rank, rows, carried, note, state, ends = value
    if not is_count(rank) or not isinstance(rows, tuple) or not 1 <= len(rows) <= 2:
        return False
    if not all([_is_entry(entry) for entry in rows]) or not is_sorted(carried, most=MAX_MADE):
        return False
    return is_name(note) and _is_entry(state) and isinstance(ends, bool)


def _entry_text(entry):
    """The text of a name or of an empty text."""
    return entry if entry else _EMPTY


def _stand_text(stand):
    """The text of what has the form of a stand."""
    rank, rows, carried, note, state, ends = stand
    read = ",".join([_entry_text(entry) for entry in rows])
    last = "yes" if ends else "no"
    return f"{rank} {read} {text_of(carried)} {note} {_entry_text(state)} {last}"


def write_stand(stand):
    """The text of a stand."""
    if not _has_stand_form(stand):
        raise InvalidOperation("this does not have the form of a stand")
    return _stand_text(stand)


def _stand_in(text):
    """The stand that a text tells, None if it tells none."""
    words = words_of(text)
    if len(words) != 6:
        return None
    # Only what tells an empty text may be empty, and it has a sign of its own.
    rows = tuple([_entry_in(word) for word in words[1].split(",")])
    stand = (
        count_in(words[0]), rows, names_in(words[2], most=MAX_MADE), words[3], _entry_in(words[4]), _ENDS.get(words[5]),
    )
    return stand if _has_stand_form(stand) else None


def _entry_in(word):
    """The name or the empty text that a word tells, None if it tells none."""
    if word == _EMPTY:
        return ""
    return word if word else None


def read_stand(text):
    """The stand with a text."""
    stand = _stand_in(text)
    if stand is None:
        raise ParseError(None)
    return stand


def _fits_behind(stand, stands):
    """Whether a stand ascends from the last one of a list, with as many entries for its rows."""
    return not stands or (stands[-1] < stand and len(stands[-1][1]) == len(stand[1]))


def _are_stands(value):
    """Whether the value is an ascending tuple of what has the form of a stand, each with as many rows."""
    if not isinstance(value, tuple) or not all([_has_stand_form(stand) for stand in value]):
        return False
    return all([_fits_behind(stand, value[at:at + 1]) for at, stand in enumerate(value[1:])])


def _has_paper_form(value):
    """Whether the value is a tuple that has the form of a paper."""
    if not isinstance(value, tuple) or not 2 <= len(value) <= 3:
        return False
    if len(value) == 2:
        return value[0] == "good" and _are_stands(value[1])
    return value[0] == "bad" and is_loose(value[1]) and has_deed_form(value[2])


def write_paper(paper):
    """The text of a paper."""
    if not _has_paper_form(paper):
        raise InvalidPaper("this does not have the form of a paper")
    if paper[0] == "good":
        return "\n".join(["good", *[_stand_text(stand) for stand in paper[1]]])
    return "\n".join(["bad", write_row(paper[1]), write_deed(paper[2])])


def _stands_in(lines):
    """The stands that lines tell, from the second one on."""
    stands = []
    for index in range(1, len(lines)):
        stand = _stand_in(lines[index])
        if stand is None or not _fits_behind(stand, stands):
            raise ParseError(index)
        stands.append(stand)
    return tuple(stands)


def _told_at(lines, index, read):
    """What a line tells, as it is read; it is refused with its index."""
    if index >= len(lines):
        raise ParseError(len(lines))
    try:
        return read(lines[index])
    except ParseError:
        raise ParseError(index) from None


def read_paper(text):
    """The paper with a text."""
    if not isinstance(text, str):
        raise ParseError(None)
    lines = text.split("\n")
    if lines[0] == "good":
        return ("good", _stands_in(lines))
    if lines[0] != "bad":
        raise ParseError(0)
    row = _told_at(lines, 1, read_row)
    deed = _told_at(lines, 2, read_deed)
    if len(lines) > 3:
        raise ParseError(3)
    return ("bad", row, deed)
