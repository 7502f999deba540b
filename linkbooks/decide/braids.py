"""Two plans side by side: their deeds go on together from rank to rank, each one with the new digits of those below
it. A deed that is in both is done once. Nothing else matters of a plan that has failed."""

from linkbooks.decide.courses import Steps
from linkbooks.decide.readings import ENDED, Reading, all_of, least_reader

LETTERS = ("A", "B", "C")

_SIGNS = ("A", "B", "C", "(", "+", ")", "'")


def _is_side(sign):
    """Whether this stands for a row: a letter, or the number of a deed."""
    return sign in LETTERS or isinstance(sign, int)


def _closed(waiting, deeds):
    """Whether a meld was closed: it becomes a deed, the number of which waits in its place."""
    if len(waiting) < 4 or waiting[-4] != "(" or waiting[-2] != "+":
        return False
    one, other = waiting[-3], waiting[-1]
    if not _is_side(one) or not _is_side(other):
        return False
    del waiting[-4:]
    waiting.append(len(deeds))
    deeds.append(("meld", one, other))
    return True


def _put_behind(waiting, deeds):
    """Whether something was there for a put: it becomes a deed, the number of which waits in its place."""
    if not waiting or not _is_side(waiting[-1]):
        return False
    deeds.append(("put", waiting.pop()))
    waiting.append(len(deeds) - 1)
    return True


def deeds_in(text):
    """The pair of the deeds of a plan in their order, and of what comes to its row; None if this is no text of a plan.
    A deed is a tuple of its kind and of the letters, or the numbers of the deeds, of which it takes the rows."""
    deeds, waiting = [], []
    for sign in text:
        if sign not in _SIGNS:
            return None
        if sign == ")":
            fits = _closed(waiting, deeds)
        elif sign == "'":
            fits = _put_behind(waiting, deeds)
        else:
            waiting.append(sign)
            fits = True
        if not fits:
            return None
    if len(waiting) != 1 or not _is_side(waiting[0]):
        return None
    return (deeds, waiting[0])


class Shared:
    """The deeds of two plans, each one once, behind those that it needs. Numbers stand for these letters, then for the
    deeds. For each plan: which of the deeds are in it, and what comes to its row."""

    def __init__(self, texts, letters):
        self.jobs = []
        self.members = []
        self.results = []
        for text in texts:
            numbers = {letter: at for at, letter in enumerate(letters)}
            inside, result = deeds_in(text)
            for at, deed in enumerate(inside):
                numbers[at] = len(letters) + self._number_of([numbers[part] for part in deed[1:]], deed[0])
            self.members.append([numbers[at] - len(letters) for at in range(len(inside))])
            self.results.append(numbers[result])

    def _number_of(self, parts, kind):
        """The number of a deed with these parts; it does not matter which row of a meld comes first."""
        deed = (kind, *sorted(parts))
        if deed not in self.jobs:
            self.jobs.append(deed)
        return self.jobs.index(deed)


class Braid:
    """The course of two plans. A spot tells the base of the rank, the states of the rows, and a number that stands for
    the rest: for each deed its note, what it carries and its state, or "" if it has ended or is not needed; which plans
    have not failed; and whether the rows to which they come are the same so far."""

    def __init__(self, book, texts, letters):
        # Rows are right or not whatever the states are; so as few as possible are told apart.
        reader = least_reader(book.reader)
        self._first = reader.first
        self._last = reader.ends
        self._lines = reader.reads
        self._bases = book.ranks
        self._plans = Shared(texts, letters)
        self._steps = Steps(book.machine)
        self._reading = Reading(book.ranks, reader.first, reader.ends, self._lines)
        leaf, begins = (book.kinds.leaf,), book.starts
        threads = [(begins[deed[0]], leaf if deed[0] == "put" else (), reader.first) for deed in self._plans.jobs]
        self._rests = [(tuple(threads), (True, True), True)]
        self._numbers = {self._rests[0]: 0}
        self._known = [{}]
        self._begin = (0, (reader.first,) * len(letters), 0)

    def start(self):
        """The spot ahead of rank 0."""
        return self._begin

    def waiting(self, spot):
        """How many rows cannot end at a spot."""
        return self._reading.waiting(spot[1])

    def _carries(self, spot):
        """Whether a deed carries something at a spot."""
        return any([thread != ENDED and thread[1] != () for thread in self._rests[spot[2]][0]])

    def _is_right(self, state):
        """Whether the new row of a deed that stops in this state is right."""
        return state == self._first or state in self._last

    def _can_stop(self, thread):
        """Whether a deed of which this is told has ended, or is done if it stops."""
        return thread == ENDED or self._is_right(thread[2])

    def is_parting(self, spot):
        """Whether all can end at a spot, and the plans part then."""
        if self.waiting(spot) > 0 or self._carries(spot):
            return False
        threads, sound, same = self._rests[spot[2]]
        one, other = [
            sound[plan] and all([self._can_stop(threads[deed]) for deed in members])
            for plan, members in enumerate(self._plans.members)
        ]
        return one != other or (one and not same)

    def _deed_on(self, thread, parts):
        """How a deed goes on with these digits, "" for rows that have ended and None for those of deeds that failed:
        the pair of its new digit and of what is told of it, each likewise."""
        if None in parts:
            return (None, None)
        note, carried, state = thread
        if not carried and all([part == ENDED for part in parts]):
            return (ENDED, ENDED) if self._is_right(state) else (None, None)
        _, digit, made, after_note = self._steps.at_rank(note, all_of(parts), carried)
        # The highest digit of a put or a meld is not empty, so one for which there is no line makes it fail.
        after = self._lines.get((state, digit), "")
        return (digit, (after_note, made, after)) if after else (None, None)

    def _onward(self, rest, digits):
        """The number of the rest behind one with this number if these digits are read, None if both plans have
        failed."""
        threads, sound, same = self._rests[rest]
        gone, after = list(digits), []
        for number, deed in enumerate(self._plans.jobs):
            digit, thread = ENDED, ENDED
            if threads[number] != ENDED:
                digit, thread = self._deed_on(threads[number], [gone[part] for part in deed[1:]])
            gone.append(digit)
            after.append(thread)
        still = tuple([sound[plan] and self._goes_well(plan, after) for plan in range(2)])
        if not any(still):
            return None
        one, other = self._plans.results
        behind = (self._needed(after, still), still, same and all(still) and gone[one] == gone[other])
        if behind not in self._numbers:
            self._numbers[behind] = len(self._rests)
            self._rests.append(behind)
            self._known.append({})
        return self._numbers[behind]

    def _goes_well(self, plan, threads):
        """Whether no deed of a plan has failed."""
        return all([threads[deed] is not None for deed in self._plans.members[plan]])

    def _needed(self, threads, sound):
        """What is told of the deeds, but for those that are in no plan that has not failed."""
        needed = [deed for plan in range(2) if sound[plan] for deed in self._plans.members[plan]]
        return tuple([threads[deed] if deed in needed else ENDED for deed in range(len(threads))])

    def moves_from(self, spot):
        """How the plans go on from a spot: the texts that are read, the next spot, and what is read in all."""
        rank, states, rest = spot
        carries = self._carries(spot)
        above = self._bases.base_of(rank + 1)
        known = self._known[rest]
        found = []
        for texts, afters, digits, cost in self._reading.beside(rank, states):
            if any(texts) or carries:
                if digits not in known:
                    known[digits] = self._onward(rest, digits)
                if known[digits] is not None:
                    found.append((texts, (above, afters, known[digits]), cost))
        return found
