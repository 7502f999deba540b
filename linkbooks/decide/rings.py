"""Rings of roads, and how much is gained on them for each road. For each spot the roads from it are a list of pairs of
the number of the next spot and of what is gained, which is at least 0."""

from math import gcd


def _ring_in(onto):
    """The pair of the gain and of the number of roads of a ring, None if there is none. At most one of the roads from
    each spot is gone."""
    passed = {}
    for start in range(len(onto)):
        at = start
        while at not in passed and onto[at] is not None:
            passed[at] = start
            at = onto[at][0]
        if passed.get(at) == start:
            return _round(onto, at)
    return None


def _round(onto, start):
    """The pair of the gain and of the number of roads of the ring on which a spot is."""
    at, total = onto[start]
    roads = 1
    while at != start:
        at, gain = onto[at]
        total = total + gain
        roads += 1
    return (total, roads)


def _ring_above(exits, gain, roads):
    """The gain and the number of roads of a ring whose quotient is above this one, None if there is none."""
    worth = [0 for _ in exits]
    onto = [None for _ in exits]
    changed = True
    while changed:
        changed = False
        for at in range(len(exits)):
            for after, more in exits[at]:
                better = worth[after] + more * roads - gain
                if better > worth[at]:
                    worth[at] = better
                    onto[at] = (after, more)
                    changed = True
        # As long as each spot goes on by the road that was best for it last, only such a ring can close.
        ring = _ring_in(onto)
        if ring is not None:
            return ring
    return None


def steepest_ring(exits):
    """The greatest quotient of the gain and of the number of roads of a ring, as a pair of coprime integers; (0, 1) if
    there is no ring."""
    gain, roads = 0, 1
    better = _ring_above(exits, gain, roads)
    while better is not None:
        gain, roads = better
        better = _ring_above(exits, gain, roads)
    common = gcd(gain, roads)
    return (gain // common, roads // common)


def most_gained(exits, goals):
    """The most that is gained on a way from the first spot to one of these goals, None if there is no such way. All
    rings are without gain."""
    best = [0 if at in goals else None for at in range(len(exits))]
    changed = True
    while changed:
        changed = False
        for at in range(len(exits)):
            for after, more in exits[at]:
                if best[after] is not None and (best[at] is None or best[after] + more > best[at]):
                    best[at] = best[after] + more
                    changed = True
    return best[0]
