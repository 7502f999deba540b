"""The course of deeds of a kind: how they go on from stand to stand."""

from linkbooks.base.rows import merged
from linkbooks.decide.readings import Reading


class Steps:
    """What a machine does at a rank, kept for the next time it is asked for."""

    def __init__(self, machine):
        self._rules = machine
        self._known = {}

    def at_rank(self, note, part, carried):
        """With this part of a pool, and with what is carried: the pool, the new digit, what is made, and the next
        note."""
        place = (note, part, carried)
        if place not in self._known:
            pool = merged(part, carried)
            self._known[place] = (pool, *self._rules.step(note, pool))
        return self._known[place]


class Course:
    """The course of the deeds of a kind in a book."""

    def __init__(self, book, deed):
        reader = book.reader
        self._deed = deed
        self._leaf = book.kinds.leaf
        self._first = reader.first
        self._last = reader.ends
        self._lines = reader.reads
        self._note = book.starts[deed]
        self._bases = book.ranks
        self._steps = Steps(book.machine)
        self._reading = Reading(book.ranks, reader.first, reader.ends, self._lines)

    def start(self):
        """The stand in which deeds begin."""
        carried = (self._leaf,) if self._deed == "put" else ()
        return (0, self._reading.rows_at_start(self._deed), carried, self._note, self._first, True)

    def waiting(self, stand):
        """How many rows cannot end in a stand."""
        return self._reading.waiting_in(self._deed, stand[1])

    def is_end(self, stand):
        """Whether a stand is final."""
        return not stand[2] and self.waiting(stand) == 0

    def moves_from(self, stand):
        """How deeds go on from a stand: for each move its reads, the next stand, what is read in all, the pool, and
        what is made."""
        rank, rows, carried, note, state, ends = stand
        above = self._bases.base_of(rank + 1)
        found = []
        for reads, afters, cost, part in self._reading.choices(self._deed, rank, rows):
            if not carried and not any(reads):
                continue
            pool, digit, made, after_note = self._steps.at_rank(note, part, carried)
            after = self._lines.get((state, digit), "")
            right = after in self._last if digit else ends
            found.append((reads, (above, afters, made, after_note, after, right), cost, pool, made))
        return found

    def behind(self, stand, reads):
        """The stand that follows by these reads, None if there is none."""
        for road in self.moves_from(stand):
            if road[0] == reads:
                return road[1]
        return None
