"""Books that several tests use, and all their right rows with few keys, found by force."""

from linkbooks.book.books import Book
from tests.helper import BINOMIAL, GUIDED
from tests.test_ranks import sizes
from tests.test_readers import drawn

STARTS = ("start put m", "start meld m", "start take m")


def free(kinds, digits, pages=(), empty=True):
    """A book in which these digits may stand at all ranks."""
    lines = [f"read {state} {digit} o" for state in "soz" for digit in digits]
    lines += [f"read {state} 0 z" for state in "soz"] if empty else []
    lines = [line for line in lines if empty or not line.startswith("read z")]
    return Book.from_lines(*kinds, "first s", "ends o", *lines, *STARTS, *pages)


# Binary numbers with the digits 0, 1, 2: a number n is written in as many ways as Stern's sequence tells for n + 1.
HYPER = free(("leaf a", "kind a a+a"), ("a", "a+a"), (
    "page m a+a+a to a then m", "page m a+a+a+a to a then m", "page m a+a+a+a+a to a+a then m",
    "page m a+a+a+a+a+a to a+a then m"))
TERNARY = free(("leaf a", "kind a a+a+a"), ("a", "a+a"), (
    "page m a+a+a to a then m", "page m a+a+a+a to a then m", "page m a+a+a+a+a to a then m",
    "page m a+a+a+a+a+a to a+a then m"))
# No empty digits: each number from 1 on in just one way, with the digits 1 and 2.
FULL = free(("leaf a", "kind a a+a"), ("a", "a+a"), (
    "page m a+a+a to a then m", "page m a+a+a+a to a then m", "page m a+a+a+a+a to a+a then m"), empty=False)
# Trees at even ranks only.
EVEN = Book.from_lines("leaf a", "kind a a+a", "first s", "ends o", "read s a o", "read s 0 x", "read o 0 z", "read x 0 z",
                       "read z a o", "read z 0 x", *STARTS, "page m a+a+a to a then m")
# Two kinds, at every other rank each.
TURNS = free(("leaf a", "kind a b+b", "kind b a+a+a"), ("a", "b", "a+a", "b+b"), (
    "page m a+a+a to b then m", "page m b+b to a then m", "page m a+a+a+a to b then m"))
# Three kinds, one of which is great; two ways lead to c.
MIXED = free(("leaf a", "kind a a+a", "kind b a+a+a", "kind c a+b"), ("a", "b", "c", "a+b", "b+c", "a+c+c"), (
    "page m a+a to a then m", "page m a+a+a to b then m", "page m a+b to c then n", "page n b+b to 0 then m",
    "page n a+a+a+a+a to a+b then m", "page m a+a+b to a then n", "page n a to 0 then m"))
# Kinds that do not exist from some rank on.
SHORT = free(("leaf a", "kind b a+a", "kind c b+b+b"), ("a", "a+a", "a+a+a", "b", "b+b", "c", "b+c"), (
    "page m a+a to b then m", "page m b+b+b to c then m", "page m a+a+a to b then m"))
# A take can go up through b or through c.
FORKED = free(("leaf a", "kind a b+c", "kind b a+a", "kind c a+a+a"), ("a", "b", "c", "b+c", "a+a"), (
    "page m b+c to a then m", "page m a+a+a to c then m", "page m a+a+a+a to b+b then m"))
ALONE = Book.from_lines("leaf a", "first s", "ends o", "read s a+a o", *STARTS)
NOTHING = Book.from_lines("leaf a", "kind a a+a", "first s", "ends o", *STARTS)

BOOKS = (BINOMIAL, GUIDED, HYPER, TERNARY, FULL, EVEN, TURNS, MIXED, SHORT, FORKED, ALONE, NOTHING)


def drawn_book(chance, kinds, digits, pages=()):
    """A book by chance over these kinds; None if there is none."""
    reader = drawn(chance, digits, chance.randrange(4, 16))
    return Book.from_lines(*kinds.lines, *reader.lines, *STARTS, *pages) if reader is not None else None


def rows_up_to(book, keys):
    """The dict from numbers of keys, up to this one, to the right rows with so many keys, in their order."""
    reads, ends = book.reader.reads, book.reader.ends
    by_rank = sizes(book.kinds, keys.bit_length() + 1)
    found, rows, rank = {0: [()]}, [((), book.reader.first, 0)], 0
    # A tree at a rank above this has more keys.
    while rows and 1 << rank <= keys:
        longer = []
        for row, state, many in rows:
            for (before, digit), after in reads.items():
                if before == state and all(name in by_rank[rank] for name in digit):
                    longer.append(((*row, digit), after, many + sum(by_rank[rank][name] for name in digit)))
        rows = [(row, state, many) for row, state, many in longer if many <= keys]
        for row, state, many in rows:
            if state in ends:
                found.setdefault(many, []).append(row)
        rank += 1
    return {many: sorted(found[many], key=lambda row: (len(row), row[::-1])) for many in sorted(found)}
