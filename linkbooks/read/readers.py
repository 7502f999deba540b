"""Readers: they tell which rows are right."""

from linkbooks.base.lines import names_in, text_of, told_by, words_of
from linkbooks.base.rows import MAX_DIGIT, are_loose_digits, is_digit
from linkbooks.base.words import is_name, is_sorted
from linkbooks.errors import InvalidOperation, InvalidReader, InvalidRow

MAX_STATES = 6
MAX_READS = 40


def _is_ascending(value):
    """Whether the value is an ascending tuple of at least one name."""
    if not isinstance(value, tuple) or not is_sorted(value, most=len(value)):
        return False
    return len(value) > 0 and len(set(value)) == len(value)


def _is_place(value):
    """Whether the value is a pair of a state and a digit."""
    return isinstance(value, tuple) and len(value) == 2 and is_name(value[0]) and is_digit(value[1])


def _are_reads(value):
    """Whether the value is a dict from pairs of a state and a digit to states."""
    if not isinstance(value, dict) or len(value) > MAX_READS:
        return False
    return all([_is_place(place) and is_name(value[place]) for place in value])


def _all_states(first, ends, reads):
    """The ascending tuple of the states of a reader."""
    befores = [state for state, _ in reads]
    afters = [reads[place] for place in reads]
    return tuple(sorted(set([first, *ends, *befores, *afters])))


def _is_reader(first, ends, reads):
    """Whether there is such a reader."""
    if not is_name(first) or not _is_ascending(ends) or not _are_reads(reads):
        return False
    if first in ends or len(_all_states(first, ends, reads)) > MAX_STATES:
        return False
    for (_, digit), after in reads.items():
        if after == first or (after in ends and not digit):
            return False
    return True


def _states_line(words):
    """What a line of the first state or of those that end tells, by its words, as `reader_line` does."""
    states = tuple(words[1:])
    if words[:1] == ["first"] and len(states) == 1 and is_name(states[0]):
        return (("first",), states[0])
    if words[:1] == ["ends"] and _is_ascending(states):
        return (("ends",), states)
    return None


def reader_line(line):
    """The pair of the place and of what a line of a reader tells there, or None if the value is no such line."""
    words = words_of(line)
    if len(words) != 4 or words[0] != "read":
        return _states_line(words)
    digit = names_in(words[2], most=MAX_DIGIT)
    if digit is None or not is_name(words[1]) or not is_name(words[3]):
        return None
    return (("read", words[1], digit), words[3])


def _reached(starts, pairs):
    """The states in a list, and all to which pairs lead on from them."""
    found = list(starts)
    at = 0
    while at < len(found):
        for before, after in pairs:
            if before == found[at] and after not in found:
                found.append(after)
        at += 1
    return found


def _spare(first, ends, reads):
    """The places of the lines that lead along no row that the reader takes."""
    pairs = [(place[0], after) for place, after in reads.items()]
    begun = _reached([first], pairs)
    live = _reached(ends, [(after, before) for before, after in pairs])
    return tuple([place for place, after in reads.items() if place[0] not in begun or after not in live])


def _representatives(marks):
    """For each state the first one with an equal mark."""
    return {state: min([same for same in marks if marks[same] == marks[state]]) for state in marks}


def _lines_from(state, reads, names):
    """The digits in the lines from a state, each with the name of the next state."""
    return [(digit, names[after]) for (before, digit), after in reads.items() if before == state]


def _merged_states(first, ends, reads):
    """For each state the first one from which the same rows lead on to the end. Nothing leads to the first state, so
    it stands for itself."""
    states = _all_states(first, ends, reads)
    names = _representatives({state: (state == first, state in ends) for state in states})
    while True:
        finer = _representatives({state: (names[state], _lines_from(state, reads, names)) for state in states})
        if finer == names:
            return names
        names = finer


class Reader:
    """A reader: its first state, those that end, and what it reads."""

    def __init__(self, first, ends, reads):
        if not _is_reader(first, ends, reads):
            raise InvalidReader("there is no reader with these states and lines")
        self._first = first
        self._ends = ends
        self._reads = {place: reads[place] for place in sorted(reads)}
        self._states = _all_states(first, ends, reads)
        self._spare = _spare(first, ends, self._reads)

    @classmethod
    def from_lines(cls, *lines):
        """The reader with these lines, in any order."""
        told = told_by(lines, reader_line)
        reads = {place[1:]: told[place] for place in told if place[0] == "read"}
        return cls(told.get(("first",)), told.get(("ends",)), reads)

    @property
    def first(self):
        """The first state."""
        return self._first

    @property
    def ends(self):
        """The ascending tuple of the states that end."""
        return self._ends

    @property
    def reads(self):
        """The dict from pairs (state, digit) to the next states."""
        return {place: self._reads[place] for place in self._reads}

    @property
    def states(self):
        """The ascending tuple of the states."""
        return self._states

    @property
    def digits(self):
        """The ascending tuple of the digits in the lines."""
        return tuple(sorted(set([digit for _, digit in self._reads])))

    @property
    def lines(self):
        """The lines of the first state, of those that end, and of what is read."""
        reads = [f"read {place[0]} {text_of(place[1])} {self._reads[place]}" for place in self._reads]
        ends = " ".join(["ends", *self._ends])
        return (f"first {self._first}", ends, *reads)

    @property
    def spare(self):
        """The ascending tuple of the pairs (state, digit) whose lines no row that it takes needs."""
        return self._spare

    def behind(self, digits):
        """The state to which the digits lead, "" if there is none."""
        if not are_loose_digits(digits):
            raise InvalidRow("these are no digits of a loose row")
        state = self._first
        for digit in digits:
            state = self._reads.get((state, digit), "")
        return state

    def takes(self, digits):
        """Whether the digits are a loose row that is () or leads to a state that ends."""
        state = self.behind(digits)
        return digits == () or state in self._ends

    def least(self):
        """A reader that takes the same rows, with as few states as possible."""
        reads = {place: self._reads[place] for place in self._reads if place not in self._spare}
        if not reads:
            raise InvalidOperation("the reader takes () alone")
        reached = [reads[place] for place in reads]
        ends = [state for state in self._ends if state in reached]
        names = _merged_states(self._first, ends, reads)
        fewer = {(names[state], digit): names[after] for (state, digit), after in reads.items()}
        return Reader(self._first, tuple(sorted(set([names[state] for state in ends]))), fewer)

    def __len__(self):
        return len(self._states)

    def __eq__(self, other):
        if not isinstance(other, Reader):
            return False
        return self._first == other._first and self._ends == other._ends and self._reads == other._reads

    def __str__(self):
        return f"reader with {len(self._states)} states, {len(self._reads)} reads"


def _check_readers(one, other):
    """Refuse what is no reader."""
    if not isinstance(one, Reader) or not isinstance(other, Reader):
        raise InvalidReader("this is no reader")


def _rows_to_pairs(one, other):
    """The dict from the pairs of states to which the same row leads in two readers to the first one of the shortest
    such rows, in the order of these rows: shorter ones first."""
    digits = sorted(set([*one.digits, *other.digits]))
    one_reads, other_reads = one.reads, other.reads
    rows = {(one.first, other.first): ()}
    found = list(rows)
    at = 0
    while at < len(found):
        before, beside = found[at]
        for digit in digits:
            pair = (one_reads.get((before, digit), ""), other_reads.get((beside, digit), ""))
            if pair not in rows:
                rows[pair] = (*rows[found[at]], digit)
                found.append(pair)
        at += 1
    return rows


def includes(one, other):
    """Whether a reader takes all rows that the other one takes."""
    _check_readers(one, other)
    return all([state in one.ends or beside not in other.ends for state, beside in _rows_to_pairs(one, other)])


def parting_row(one, other):
    """The first one of the shortest rows that just one of two readers takes, None if there is none."""
    _check_readers(one, other)
    rows = _rows_to_pairs(one, other)
    for pair in rows:
        if (pair[0] in one.ends) != (pair[1] in other.ends):
            return rows[pair]
    return None
