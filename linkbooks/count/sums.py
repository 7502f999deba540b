"""How many keys digits have that lead to a state, rank by rank. The sizes of all trees of a rank are alike, so few of
the numbers below a number of keys are met on the way down from it."""

from linkbooks.base.ranks import sums_by_rank


def _lines_here(reads, sizes):
    """By the state to which they lead, the lines of a reader for a rank at which trees have these sizes: triples of
    the state ahead, the digit, and its keys."""
    lines = {}
    for (state, digit), after in reads.items():
        if all([name in sizes for name in digit]):
            lines.setdefault(after, []).append((state, digit, sum([sizes[name] for name in digit])))
    return lines


def _sums_above(lines, below):
    """For each state to which lines lead the numbers of keys, by one number for each state ahead."""
    sums = {after: [below[state] + more for state, _, more in lines[after] if state in below] for after in lines}
    return {after: sums[after] for after in sums if sums[after]}


class Sums:
    """The lines of the reader of a book at each rank below a number of ranks, and the least and the greatest number of
    keys of digits for all ranks below each rank that lead to a state."""

    def __init__(self, book, ranks):
        reads = book.reader.reads
        sizes = sums_by_rank(book.kinds.leaf, book.kinds.makings, ranks)
        self.top_states = book.reader.ends
        self.bottom = book.reader.first
        self.roads = [_lines_here(reads, here) for here in sizes[:ranks]]
        self.lows = [{self.bottom: 0}]
        self.highs = [{self.bottom: 0}]
        for lines in self.roads:
            low = _sums_above(lines, self.lows[-1])
            high = _sums_above(lines, self.highs[-1])
            self.lows.append({after: min(low[after]) for after in low})
            self.highs.append({after: max(high[after]) for after in high})

    def into(self, rank, state):
        """The lines at a rank that lead to a state: triples of the state ahead, the digit, and its keys."""
        return self.roads[rank].get(state, [])

    def fits(self, ranks, state, keys):
        """Whether the keys are within the bounds for digits of so many ranks that lead to a state."""
        if state not in self.lows[ranks]:
            return False
        return self.lows[ranks][state] <= keys <= self.highs[ranks][state]

    def needed(self, keys):
        """For each number of ranks a dict of the pairs of a state and a number of keys that are met on the way down
        from right rows with so many keys."""
        found = [{} for _ in self.lows]
        for ranks in range(len(self.roads), 0, -1):
            for state in self.top_states:
                if self.fits(ranks, state, keys):
                    found[ranks][state, keys] = True
            for after, rest in list(found[ranks]):
                for state, _, more in self.into(ranks - 1, after):
                    if self.fits(ranks - 1, state, rest - more):
                        found[ranks - 1][state, rest - more] = True
        return found


def counts_by_rank(sums, keys):
    """For each number of ranks a dict that tells for the pairs that are needed how many digits for so many ranks have
    these keys and lead to this state."""
    needed = sums.needed(keys)
    found = [{(sums.bottom, 0): 1}]
    for ranks in range(1, len(needed)):
        below = found[-1]
        found.append({
            (after, rest): sum([below.get((state, rest - more), 0) for state, _, more in sums.into(ranks - 1, after)])
            for after, rest in needed[ranks]
        })
    return found


def trees_by_rank(sums, keys):
    """Likewise the greatest number of trees of such digits; no pairs for which there are none."""
    needed = sums.needed(keys)
    found = [{(sums.bottom, 0): 0}]
    for ranks in range(1, len(needed)):
        below = found[-1]
        above = {}
        for after, rest in needed[ranks]:
            trees = [
                below[state, rest - more] + len(digit)
                for state, digit, more in sums.into(ranks - 1, after) if (state, rest - more) in below
            ]
            if trees:
                above[after, rest] = max(trees)
        found.append(above)
    return found


def least_above(sums, found, ranks, pair):
    """The least number of keys, at least as great as the one in a pair, of digits for so many ranks that lead to the
    state in it, by what `least_by_rank` has found; None if there is none."""
    state, keys = pair
    if state not in sums.lows[ranks] or keys > sums.highs[ranks][state]:
        return None
    return found[ranks][pair] if keys > sums.lows[ranks][state] else sums.lows[ranks][state]


def _least_into(sums, found, ranks, pair):
    """What `least_above` tells for a pair, by what is found for fewer ranks."""
    after, keys = pair
    known = []
    for state, _, more in sums.into(ranks - 1, after):
        least = least_above(sums, found, ranks - 1, (state, keys - more))
        if least is not None:
            known.append(more + least)
    return min(known)


def least_by_rank(sums, keys):
    """For each number of ranks a dict that tells for the pairs that are needed what `least_above` tells for them."""
    needed = sums.needed(keys)
    found = [{}]
    for ranks in range(1, len(needed)):
        found.append({pair: _least_into(sums, found, ranks, pair) for pair in needed[ranks]})
    return found
