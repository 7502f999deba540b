"""A second reckoning of what is decided: stands and moves as the document tells them, and all deeds with few keys."""

import functools
import itertools
import random

from linkbooks.base.kinds import Kinds
from linkbooks.book.books import DEEDS, Book
from linkbooks.errors import LinkError
from tests.books import BOOKS, drawn_book, rows_up_to
from tests.helper import BINOMIAL, GUIDED
from tests.machines import at_rank, gone, makings_of, names_of
from tests.test_deeds import rows_of, takes_in

LESS = BINOMIAL.without("page m a+a+a to a then m")
DOUBLE = Kinds("a", {"a": ("a", "a")})
TRIPLE = Kinds("a", {"a": ("a", "a", "a")})
TURNING = Kinds("a", {"a": ("b", "b"), "b": ("a", "a", "a")})
TWOFOLD = Kinds("a", {"a": ("a", "a"), "b": ("a", "a", "a")})
FINITE = Kinds("a", {"b": ("a", "a"), "c": ("b", "b")})


def lines_from(book, state):
    """The pairs of a digit and of the next state that the lines of a book tell for a state."""
    found = []
    for line in book.lines:
        words = line.split(" ")
        if words[0] == "read" and words[1] == state:
            found.append((names_of(words[2]), words[3]))
    return found


def text(digit):
    """The text of a digit."""
    return "+".join(digit) or "0"


def plain_start(book, kind):
    """The start, as the document tells it."""
    first, leaf, note = book.reader.first, book.kinds.leaf, book.starts[kind]
    return {"put": (0, (first,), (leaf,), note, first, True), "meld": (0, (first, first), (), note, first, True),
            "take": (0, (first, leaf), (), note, first, True)}[kind]


def can_end(book, kind, rows):
    """Whether all rows have ended or can end."""
    states = rows[:1] if kind == "take" else rows
    met = kind != "take" or rows[1] == ""
    return met and all(state in ("", book.reader.first, *book.reader.ends) for state in states)


def read_on(book, kind, rank, rows):
    """How the rows of a stand go on: triples of the reads, of the rows behind, and of what is in the pool by them."""
    here, above = book.ranks.kinds_at(rank), book.ranks.kinds_at(rank + 1)

    def reads(state):
        return [(digit, after) for digit, after in lines_from(book, state) if all(name in here for name in digit)]

    def each(state):
        ends = [("", "", ())] if state in ("", book.reader.first, *book.reader.ends) else []
        return ends + [(text(digit), after, digit) for digit, after in reads(state)]

    if kind != "take":
        return [(tuple(one[0] for one in row), tuple(one[1] for one in row), [name for one in row for name in one[2]])
                for row in itertools.product(*[each(state) for state in rows])]
    state, top = rows
    if top == "":
        return [((told, ""), (after, ""), list(digit)) for told, after, digit in each(state)]
    found, makings = [], makings_of(book.lines)
    for digit, after in reads(state):
        if top in digit:
            left = list(digit)
            left.remove(top)
            found.append(((text(digit), "!"), (after, ""), left))
        for name, making in makings.items():
            if top in making and name in above:
                others = list(making)
                others.remove(top)
                found.append(((text(digit), name), (after, name), list(digit) + others))
    return found


def plain_moves(book, kind, stand):
    """The moves from a stand with their pools and with what is made: quadruples, ascending."""
    rank, rows, carried, note, state, ends = stand
    found = []
    for reads, afters, part in read_on(book, kind, rank, rows):
        if not carried and (reads[0] if kind == "take" else "".join(reads)) == "":
            continue
        pool = tuple(sorted([*part, *carried]))
        digit, made, after_note = at_rank(book.lines, note, pool)
        after = next((told for read, told in lines_from(book, state) if read == digit), "") if state else ""
        right = after in book.reader.ends if digit else ends
        found.append((reads, (book.ranks.base_of(rank + 1), afters, made, after_note, after, right), pool, made))
    return sorted(found)


def plain_final(book, kind, stand):
    """Whether a stand is final."""
    return stand[2] == () and can_end(book, kind, stand[1])


class PlainTable:
    """The table of a kind of deeds, by a search from the start."""

    def __init__(self, book, kind):
        self.start = plain_start(book, kind)
        self.moves, waiting = {}, [self.start]
        while waiting:
            stand = waiting.pop()
            if stand not in self.moves:
                self.moves[stand] = plain_moves(book, kind, stand)
                waiting.extend(move[1] for move in self.moves[stand])
        self.finals = {stand for stand in self.moves if plain_final(book, kind, stand)}
        live, more = set(self.finals), True
        while more:
            more = {stand for stand in self.moves if stand not in live and any(move[1] in live for move in self.moves[stand])}
            live |= more
        self.live = live
        self.stands = tuple(sorted(live | {self.start}))
        self.wrong = tuple(sorted(stand for stand in self.finals if not stand[5]))

    def ranks_to(self):
        """The dict from all stands to the least number of moves to them."""
        ranks, layer = {self.start: 0}, [self.start]
        while layer:
            layer = [move[1] for stand in layer for move in self.moves[stand] if ranks.setdefault(move[1], ranks[stand] + 1) == ranks[stand] + 1]
            layer = list(dict.fromkeys(layer))
            if layer and ranks[layer[0]] > len(self.moves):
                break
        return ranks

    def inner_moves(self):
        """The moves between stands of the table: quintuples of the stand and of what `plain_moves` tells."""
        return [(stand, *move) for stand in self.stands for move in self.moves[stand] if move[1] in self.live]


def stands_of(book, row, deed):
    """The stands through which a deed in a right row goes, from the rows, the steps and the new row alone."""
    rows, carried = rows_of(book, row, deed)
    note, found = book.starts[deed[0]], []
    read = [row, deed[1]] if deed[0] == "meld" else [row]
    _, steps = gone(book.lines, note, rows, carried)
    digits = [at_rank(book.lines, before, pool)[0] for before, (pool, _, _) in zip((note, *[step[2] for step in steps]), steps)]

    def state_behind(reader_digits):
        state = book.reader.first
        for digit in reader_digits:
            state = next((after for told, after in lines_from(book, state) if told == tuple(digit)), "") if state else ""
        return state
    for rank in range(len(steps) + 1):
        states = [state_behind(each[:rank]) if rank <= len(each) else "" for each in read]
        if deed[0] == "take":
            states.append(deed[2][rank] if rank <= deed[1] else "")
        new = digits[:rank]
        while new and not new[-1]:
            new = new[:-1]
        carried_on, note_on = (carried, note) if rank == 0 else steps[rank - 1][1:]
        right = new == [] or state_behind(new) in book.reader.ends
        found.append((book.ranks.base_of(rank), tuple(states), tuple(carried_on), note_on, state_behind(digits[:rank]), right))
    return found


def keys_in_row(book, row):
    """The keys of a row, by the makings."""
    makings = makings_of(book.lines)

    @functools.lru_cache(None)
    def size(name, rank):
        return 1 if rank == 0 else sum(size(part, rank - 1) for part in makings[name])
    return sum(size(name, rank) for rank, digit in enumerate(row) for name in digit)


def all_deeds(book, kind, keys):
    """All deeds of a kind with at most so many keys: triples of the keys, the row and the deed."""
    rows = [(many, row) for many, each in rows_up_to(book, keys).items() for row in each]
    if kind == "put":
        return [(many, row, ("put",)) for many, row in rows]
    if kind == "meld":
        return [(many + more, row, ("meld", other)) for many, row in rows for more, other in rows if many + more <= keys]
    return [(many, row, take) for many, row in rows for take in takes_in(book, row)]


def outcome(book, row, deed):
    """The new row and the steps of a deed, by the machine that the tests make."""
    rows, carried = rows_of(book, row, deed)
    return gone(book.lines, book.starts[deed[0]], rows, carried)


def is_right(book, row):
    """Whether a row is right, by the lines of the reader; its kinds exist."""
    state = book.reader.first
    for digit in row:
        state = next((after for told, after in lines_from(book, state) if told == digit), "") if state else ""
    return row == () or state in book.reader.ends


def drawn_page(chance, kinds, notes):
    """The line of a page by chance that can be done."""
    pool = tuple(sorted(chance.choice(kinds.names) for _ in range(chance.randrange(5))))
    left, made = list(pool), []
    for name in chance.sample(kinds.names, len(kinds.names)) * 2:
        making = kinds[name]
        if making and len(made) < 2 and all(left.count(part) >= making.count(part) for part in making) and chance.randrange(4):
            made.append(name)
            for part in making:
                left.remove(part)
    return f"page {chance.choice(notes)} {text(pool)} to {text(sorted(made))} then {chance.choice(notes)}"


def drawn_whole(chance):
    """A book by chance with a few pages, and with notes of its own for deeds; None if there is none."""
    kinds = chance.choice((DOUBLE, DOUBLE, TRIPLE, TURNING, TWOFOLD, FINITE))
    digits = [tuple(sorted(digit)) for many in range(3) for digit in itertools.combinations_with_replacement(kinds.names, many)]
    book = drawn_book(chance, kinds, digits)
    notes = "mnk"[:chance.randrange(1, 4)]
    for _ in range(chance.randrange(9)):
        try:
            book = book.with_line(drawn_page(chance, kinds, notes)) if book is not None else None
        except LinkError:
            pass
    for kind in DEEDS if book is not None else ():
        book = book.with_line(f"start {kind} {chance.choice(notes)}")
    return book


def altered(chance):
    """A book by chance that is near one of those by hand."""
    book = chance.choice(FEW)
    notes = sorted({line.split(" ")[2] for line in book.lines if line.startswith("start ")}) + ["q"]
    for _ in range(chance.randrange(1, 4)):
        lines = [line for line in book.lines if line.split(" ")[0] in ("read", "page")]
        try:
            if chance.randrange(2) and lines:
                book = book.without(chance.choice(lines))
            else:
                book = book.with_line(drawn_page(chance, book.kinds, notes))
        except LinkError:
            pass
    return book


def drawn_books(seed, many):
    """So many different books by chance, with right rows other than the empty one."""
    chance, found = random.Random(seed), []
    while len(found) < many:
        book = chance.choice((drawn_whole, altered))(chance)
        if book is not None and book not in found and len(rows_up_to(book, 6)) > 2:
            found.append(book)
    return found


# Good books and bad ones, by hand.
FEW = (BINOMIAL, GUIDED, LESS, *BOOKS[2:])
