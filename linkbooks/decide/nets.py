"""Nets: the roads between spots, with what is read on each one in all and what is gained on it, and the ways along
them to a goal that take as few keys as possible."""

from linkbooks.base.ranks import sums_above
from linkbooks.decide.spreads import leading_to


class Sizes:
    """The sizes of the kinds at each rank, as far up as they are asked for."""

    def __init__(self, kinds):
        self._makings = kinds.makings
        self._by_rank = [{kinds.leaf: 1}]

    def here(self, rank):
        """The dict from the kinds at a rank to their sizes."""
        while len(self._by_rank) <= rank:
            self._by_rank.append(sums_above(self._makings, self._by_rank[-1]))
        return self._by_rank[rank]

    def least(self, rank):
        """The least size at a rank, 0 if no kind exists there."""
        return min(list(self.here(rank).values()), default=0)

    def ranks_within(self, keys):
        """The greatest number of ranks of a row with at most so many keys. A tree at a higher rank is greater."""
        ranks = 0
        while 0 < self.least(ranks) <= keys:
            ranks += 1
        return ranks


def _is_within(few, many):
    """Whether all of these kinds are among those, each one as often at least."""
    return all([few.count(name) <= many.count(name) for name in few])


def _cheapest(costs):
    """Of the dict from what is read to reads, what takes no more than something else at each rank."""
    return [
        (cost, costs[cost]) for cost in costs
        if not any([_is_within(other, cost) for other in costs if other != cost])
    ]


class Net:
    """The roads of a course between these spots, the first of which is the start, with goals among them. `beyond` is
    how many ranks a deed can go on above its rows at most, and `gain` tells what is gained on a road."""

    def __init__(self, course, spots, goals, kinds, *, beyond, gain):
        numbers = {spot: at for at, spot in enumerate(spots)}
        self.sizes = Sizes(kinds)
        self.beyond = beyond
        self.goals = {numbers[goal]: True for goal in goals}
        self.waits = [course.waiting(spot) for spot in spots]
        self.exits = [self._exits_of(course, spot, numbers, gain) for spot in spots]

    def _exits_of(self, course, spot, numbers, gain):
        """The dict from pairs of the number of the next spot and of what is gained to what can be read then."""
        costs = {}
        for road in course.moves_from(spot):
            after = numbers.get(road[1])
            if after is not None:
                costs.setdefault((after, gain(spot, road)), {}).setdefault(road[2], road[0])
        return {place: _cheapest(costs[place]) for place in costs}

    def further(self, ahead, most):
        """The most that can be gained on a way to a goal from each spot, up to this, -1 if there is no way. What can
        be on ways with one road less is known."""
        return [
            min(most, max([ahead[at]] + [ahead[after] + gain for after, gain in self.exits[at] if ahead[after] >= 0]))
            for at in range(len(ahead))
        ]

    def at_goals(self):
        """The same for ways without a road."""
        return [0 if at in self.goals else -1 for at in range(len(self.exits))]


class Search:
    """A search for a way with as few keys as possible, on which so much is gained at least."""

    def __init__(self, net, wanted, ranks):
        self.wanted = wanted
        self._net = net
        self._deepest = ranks
        self.ahead = [net.at_goals()]

    def reach_out(self, roads):
        """Find out what can be gained on ways with so many roads, or with fewer."""
        while len(self.ahead) <= roads:
            self.ahead.append(self._net.further(self.ahead[-1], self.wanted))

    def is_near(self):
        """Find out how many roads are needed; whether there is a way with so many at all."""
        while self.ahead[-1][0] < self.wanted:
            roads = len(self.ahead)
            self.reach_out(roads)
            if self.ahead[-1] == self.ahead[-2]:
                return False
            if self._deepest is not None and roads > self._deepest + self._net.beyond:
                return False
        return True

    def roads_within(self, keys):
        """The greatest number of roads on which so many keys can be read."""
        ranks = self._net.sizes.ranks_within(keys)
        if self._deepest is not None:
            ranks = min(ranks, self._deepest)
        return ranks + self._net.beyond

    def way_below(self, most):
        """The pair of the keys and of the reads of the way with the fewest keys, fewer than this if it is no None,
        among those with as many roads as were looked at; None if there is none."""
        layers = [{(0, 0): (0, None, None)}]
        best = None
        while layers[-1]:
            rank = len(layers) - 1
            for place, told in layers[rank].items():
                at_end = place[0] in self._net.goals and place[1] >= self.wanted
                if at_end and (most is None or told[0] < most):
                    most = told[0]
                    best = (rank, place)
            layers.append(self._next_layer(layers[rank], rank, most))
        return _told_way(layers, best) if best is not None else None

    def _next_layer(self, layer, rank, most):
        """From the pairs of a spot and a gain at a rank, with their keys, those at the next one that are of use."""
        above = {}
        left = len(self.ahead) - 2 - rank
        if left < 0:
            return above
        sizes, ahead = self._net.sizes.here(rank), self.ahead[left]
        least = self._net.sizes.least(rank + 1)
        for place, told in layer.items():
            for (after, gain), costs in self._net.exits[place[0]].items():
                if ahead[after] < 0 or place[1] + gain + ahead[after] < self.wanted:
                    continue
                bound = None if most is None else most - self._net.waits[after] * least
                keys, reads = self._fewest(costs, sizes, rank, told[0])
                onto = (after, min(self.wanted, place[1] + gain))
                if keys is None or (bound is not None and keys >= bound):
                    continue
                if onto not in above or keys < above[onto][0]:
                    above[onto] = (keys, place, reads)
        return above

    def _fewest(self, costs, sizes, rank, before):
        """The fewest keys behind a road at a rank, and the reads; no row has a digit at a rank that is too high."""
        low = self._deepest is None or rank < self._deepest
        best = (None, None)
        for cost, reads in costs:
            keys = before + sum([sizes[name] for name in cost])
            if (best[0] is None or keys < best[0]) and (low or not any(reads)):
                best = (keys, reads)
        return best


def _told_way(layers, best):
    """The pair of the keys and of the reads of the way to a place in the layers."""
    rank, place = best
    keys = layers[rank][place][0]
    reads = []
    while rank > 0:
        _, before, read = layers[rank][place]
        reads.append(read)
        rank, place = rank - 1, before
    return (keys, tuple(reads[::-1]))


def least_way(net, wanted, *, ranks=None):
    """The pair of the keys and of the reads of a way from the start to a goal with as few keys as possible, on which
    so much is gained at least, with rows of at most so many ranks; None if there is none."""
    search = Search(net, wanted, ranks)
    if not search.is_near():
        return None
    if ranks is not None and len(search.ahead) > ranks:
        search.reach_out(ranks + net.beyond)
    best = search.way_below(None)
    if best is not None:
        search.reach_out(search.roads_within(best[0]))
        best = search.way_below(best[0]) or best
    return best


def no_gain(spot, road):
    """What is gained on a road where only the keys matter."""
    return 0


def least_reads(course, spread, goals, kinds, beyond):
    """The reads of a way from the start of a course to one of the spots with these numbers, with as few keys as
    possible; None if there is no way."""
    leading = leading_to(spread.onward, goals)
    if 0 not in leading:
        return None
    spots = [spread.spots[at] for at in sorted(leading)]
    net = Net(course, spots, [spread.spots[at] for at in goals], kinds, beyond=beyond, gain=no_gain)
    return least_way(net, 0)[1]
