"""What is told of all ranks: which kinds exist there, their sizes and the ways to them."""

from linkbooks.base.kinds import Kinds
from linkbooks.base.words import is_count
from linkbooks.errors import InvalidKinds, InvalidNumber, InvalidOperation, TooMany, UnknownName

MAX_RANK = 402


def _check_rank(rank):
    """Refuse what is no integer of at least 0."""
    if not is_count(rank):
        raise InvalidNumber(rank)


def _check_place(kinds, name, rank):
    """Refuse what is no kind, then what is no rank."""
    if name not in kinds:
        raise UnknownName(name)
    _check_rank(rank)


def _kinds_above(makings, existing):
    """The kinds that exist at the rank above one at which these exist."""
    return tuple([name for name in makings if all([part in existing for part in makings[name]])])


def _kinds_by_rank(kinds):
    """The pair of the kinds that exist at each rank below turn + period, and the turn."""
    makings = kinds.makings
    by_rank = []
    existing = (kinds.leaf,)
    while existing not in by_rank:
        by_rank.append(existing)
        existing = _kinds_above(makings, existing)
    return by_rank, by_rank.index(existing)


def sums_above(parts_of, below):
    """The dict from the kinds at the rank above to sums over these parts, by the sums at the rank below it."""
    return {
        name: sum([below[part] for part in parts])
        for name, parts in parts_of.items() if all([part in below for part in parts])
    }


def sums_by_rank(leaf, parts_of, ranks):
    """For each rank below this number, and for rank 0, a dict from the kinds there to sums: 1 for the leaf at rank 0,
    and for every other tree the sum over these parts."""
    by_rank = [{leaf: 1}]
    while len(by_rank) < ranks:
        by_rank.append(sums_above(parts_of, by_rank[-1]))
    return by_rank


def _ways_below(parts_of, above):
    """How many ways lead on from each kind at a rank, by how many do from those at the rank above."""
    below = {}
    for name in above:
        for part in parts_of[name]:
            below[part] = below.get(part, 0) + above[name]
    return below


def _ways_onward(parts_of, names, rank):
    """For each rank up to this one a dict that tells from which kinds how many ways lead on to trees of these kinds."""
    downward = [{name: 1 for name in names}]
    for _ in range(rank):
        downward.append(_ways_below(parts_of, downward[-1]))
    return downward[::-1]


def _way_numbered(kinds, onward, number):
    """The way with this number, by how many ways lead on from each kind at each rank."""
    way = [kinds.leaf]
    for counts in onward[1:]:
        users = [user for user in kinds.users(way[-1]) if user in counts]
        at = 0
        while number >= counts[users[at]]:
            number -= counts[users[at]]
            at += 1
        way.append(users[at])
    return tuple(way)


class Ranks:
    """What is told of all ranks for some kinds."""

    def __init__(self, kinds):
        if not isinstance(kinds, Kinds):
            raise InvalidKinds("these are no kinds")
        makings = kinds.makings
        self._kinds = kinds
        self._by_rank, self._turn = _kinds_by_rank(kinds)
        self._parts_of = {name: sorted(set(makings[name])) for name in makings}
        self._sizes = sums_by_rank(kinds.leaf, makings, MAX_RANK + 1)
        self._ways = sums_by_rank(kinds.leaf, self._parts_of, MAX_RANK + 1)

    @property
    def kinds(self):
        """The kinds of which this is told."""
        return self._kinds

    @property
    def turn(self):
        """The rank from which on the kinds that exist repeat."""
        return self._turn

    @property
    def period(self):
        """After how many ranks they repeat."""
        return len(self._by_rank) - self._turn

    def base_of(self, rank):
        """The rank below turn + period at which the same kinds exist in the same course."""
        _check_rank(rank)
        if rank < len(self._by_rank):
            return rank
        return self._turn + (rank - self._turn) % self.period

    def kinds_at(self, rank):
        """The ascending tuple of the kinds that exist at a rank."""
        return self._by_rank[self.base_of(rank)]

    def size_of(self, name, rank):
        """The size of a kind at a rank, None if it does not exist there."""
        _check_place(self._kinds, name, rank)
        if rank > MAX_RANK:
            raise TooMany(MAX_RANK)
        return self._sizes[rank].get(name)

    def ways_to(self, name, rank):
        """How many ways lead to a tree of this kind and rank."""
        _check_place(self._kinds, name, rank)
        if rank > MAX_RANK:
            raise TooMany(MAX_RANK)
        return self._ways[rank].get(name, 0)

    def some_way(self, name, rank, number):
        """The way to a tree of this kind and rank with this number, in ascending order."""
        _check_place(self._kinds, name, rank)
        if not is_count(number):
            raise InvalidNumber(number)
        if number >= self.ways_to(name, rank):
            raise InvalidNumber(number)
        return _way_numbered(self._kinds, _ways_onward(self._parts_of, (name,), rank), number)

    def each_way(self, names, rank):
        """A generator of the ways to trees of these kinds, which exist at this rank, in ascending order."""
        onward = _ways_onward(self._parts_of, names, rank)
        for number in range(onward[0].get(self._kinds.leaf, 0)):
            yield _way_numbered(self._kinds, onward, number)

    def is_way(self, value):
        """Whether the value is a way to some tree."""
        if not isinstance(value, tuple) or value[:1] != (self._kinds.leaf,):
            return False
        if not all([name in self._kinds for name in value]):
            return False
        if not all([low in self._kinds[high] for low, high in zip(value, value[1:])]):
            return False
        return value[-1] in self.kinds_at(len(value) - 1)

    def children_of(self, way):
        """The row of the children of the tree to which a way leads."""
        if not self.is_way(way):
            raise InvalidOperation("this is no way to a tree")
        return tuple([self._kinds.losers(high, low) for low, high in zip(way, way[1:])])

    def __len__(self):
        return len(self._by_rank)

    def __eq__(self, other):
        return isinstance(other, Ranks) and self._kinds == other._kinds

    def __str__(self):
        return f"ranks from {self._turn} on by {self.period}"
