"""Deeds of a kind by two books side by side, in rows that are right in both."""

from linkbooks.decide.courses import Steps
from linkbooks.decide.readings import Reading, least_reader

# What is told of the machines once the new rows differ: nothing else matters of them then.
_PARTED = ()


def _common_reading(book, other):
    """How rows are read that are right in both of two books with equal kinds. A state is a pair of states."""
    one, two = least_reader(book.reader), least_reader(other.reader)
    ones, twos = one.reads, two.reads
    lines = {
        ((before, beside), digit): (ones[before, digit], twos[beside, read])
        for before, digit in ones for beside, read in twos if read == digit
    }
    ends = [(end, also) for end in one.ends for also in two.ends]
    return Reading(book.ranks, (one.first, two.first), ends, lines)


class Pair:
    """The course of the deeds of a kind in two books. A spot tells the base of the rank, the rows, and for both
    machines the note and what is carried, as long as the new digits are the same."""

    def __init__(self, book, other, deed):
        self._deed = deed
        self._bases = book.ranks
        self._reading = _common_reading(book, other)
        self._steps = Steps(book.machine)
        self._beside = Steps(other.machine)
        carried = (book.kinds.leaf,) if deed == "put" else ()
        sides = ((book.starts[deed], carried), (other.starts[deed], carried))
        self._begin = (0, self._reading.rows_at_start(deed), sides)

    def start(self):
        """The spot ahead of rank 0."""
        return self._begin

    def waiting(self, spot):
        """How many rows cannot end at a spot."""
        return self._reading.waiting_in(self._deed, spot[1])

    def parts_at(self, spot):
        """Whether a deed can end at a spot at which the new rows differ. They do, too, if just one machine goes on
        above all rows: what is carried comes to a digit that is not empty."""
        if self.waiting(spot) > 0:
            return False
        return spot[2] == _PARTED or (spot[2][0][1] == ()) != (spot[2][1][1] == ())

    def _behind(self, sides, part):
        """What is told of both machines behind a rank with this part of the pool."""
        _, digit, made, note = self._steps.at_rank(sides[0][0], part, sides[0][1])
        _, beside, also_made, also_note = self._beside.at_rank(sides[1][0], part, sides[1][1])
        return ((note, made), (also_note, also_made)) if digit == beside else _PARTED

    def moves_from(self, spot):
        """How deeds go on from a spot: the reads of the move, the next spot, and what is read in all."""
        rank, rows, sides = spot
        above = self._bases.base_of(rank + 1)
        both_carry = sides != _PARTED and sides[0][1] != () and sides[1][1] != ()
        found = []
        for reads, afters, cost, part in self._reading.choices(self._deed, rank, rows):
            if any(reads) or both_carry:
                behind = self._behind(sides, part) if sides != _PARTED else _PARTED
                found.append((reads, (above, afters, behind), cost))
        return found
