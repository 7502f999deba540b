"""How rows are read rank by rank, side by side, along all lines that lead to right rows."""

from linkbooks.base.lines import names_in, text_of
from linkbooks.base.rows import MAX_DIGIT, merged
from linkbooks.errors import InvalidOperation

# What is told of a row that has ended, in place of a state, of the text of a digit, or of the kind of a top.
ENDED = ""

# What becomes of a top whose tree is at this rank.
HERE = "!"


def text_row(texts):
    """The row that is read by these texts of digits, from rank 0 on."""
    return tuple([names_in(text, most=MAX_DIGIT) for text in texts if text != ENDED])


def least_reader(reader):
    """A reader that takes the same rows, with as few states as possible."""
    try:
        return reader.least()
    except InvalidOperation:
        return reader


def _less(digit, name):
    """The digit without one kind that is in it."""
    at = digit.index(name)
    return digit[:at] + digit[at + 1:]


def all_of(digits):
    """The sorted tuple of the kinds in all of these digits."""
    return tuple(sorted([name for digit in digits for name in digit]))


class Reading:
    """The ways on which rows can be read on from a rank. States can be of any sort."""

    def __init__(self, ranks, first, last, lines):
        self._ranks = ranks
        self._first = first
        self._last = last
        self._lines = lines
        self._here = {}
        self._aside = {}
        self._known = {}

    def can_end(self, state):
        """Whether a row in this state has ended or can end."""
        return state in (ENDED, self._first) or state in self._last

    def waiting(self, states):
        """How many of the rows in these states cannot end."""
        return len([state for state in states if not self.can_end(state)])

    def _lines_here(self, rank, state):
        """The lines from a state all kinds of which exist at a rank: triples of the text of the digit, the next state,
        and the digit."""
        if (rank, state) not in self._here:
            names = self._ranks.kinds_at(rank)
            self._here[rank, state] = [
                (text_of(digit), after, digit) for (before, digit), after in self._lines.items()
                if before == state and all([name in names for name in digit])
            ]
        return self._here[rank, state]

    def _each_on(self, rank, state):
        """Likewise with the end of the row, if it has ended or can end."""
        ends = [(ENDED, ENDED, ())] if self.can_end(state) else []
        return ends + self._lines_here(rank, state)

    def beside(self, rank, states):
        """How rows in these states go on: quadruples of the texts that are read, of the next states, of the digits,
        "" for a row that has ended, and of what is read in all."""
        if (rank, states) not in self._aside:
            found = [((), (), ())]
            for state in states:
                here = self._each_on(rank, state)
                found = [
                    ((*texts, text), (*afters, after), (*digits, digit if text else ENDED))
                    for texts, afters, digits in found for text, after, digit in here
                ]
            self._aside[rank, states] = [(*told, all_of(told[2])) for told in found]
        return self._aside[rank, states]

    def _added(self, rank, states):
        """How rows in these states go on that are added: quadruples of the texts, of the next states, of what is read
        in all, and of what is in the pool by that."""
        return [(texts, afters, cost, cost) for texts, afters, _, cost in self.beside(rank, states)]

    def _taken(self, rank, state, top):
        """Likewise for a row in this state from which a tree is taken, with this kind of its top, "" if it is met."""
        if top == ENDED:
            return [((text, ENDED), (after, ENDED), digit, digit) for text, after, digit in self._each_on(rank, state)]
        found = []
        above = self._ranks.kinds_at(rank + 1)
        users = [user for user in self._ranks.kinds.users(top) if user in above]
        for text, after, digit in self._lines_here(rank, state):
            if top in digit:
                found.append(((text, HERE), (after, ENDED), digit, _less(digit, top)))
            for user in users:
                children = self._ranks.kinds.losers(user, top)
                found.append(((text, user), (after, user), digit, merged(digit, children)))
        return found

    def rows_at_start(self, deed):
        """What is told of the rows where a deed of this kind begins."""
        if deed == "take":
            return (self._first, self._ranks.kinds.leaf)
        return (self._first,) if deed == "put" else (self._first, self._first)

    def waiting_in(self, deed, rows):
        """How many of the rows of a deed cannot end."""
        if deed == "take":
            return 0 if rows[1] == ENDED and self.can_end(rows[0]) else 1
        return self.waiting(rows)

    def choices(self, deed, rank, rows):
        """How the rows of a deed of this kind go on: quadruples as told above."""
        if (rank, rows) not in self._known:
            if deed == "take":
                self._known[rank, rows] = self._taken(rank, rows[0], rows[1])
            else:
                self._known[rank, rows] = self._added(rank, rows)
        return self._known[rank, rows]
