"""Links counted: how many trees deeds of a kind make."""

from linkbooks.base.rows import MAX_RANKS
from linkbooks.base.words import is_count
from linkbooks.decide.nets import Search, least_way
from linkbooks.decide.papers import BEYOND, table_net, told_deed
from linkbooks.decide.rings import most_gained, steepest_ring
from linkbooks.decide.tables import Table, check_deeds
from linkbooks.errors import InvalidNumber

MAX_LINKS = 200

# A page makes two trees at most.
_MANY_LINKS = 2 * (MAX_RANKS + BEYOND)


def _links_made(stand, road):
    """How many trees are made on a road."""
    return len(road[4])


def _links_net(book, kind):
    """The net of the stands of a table, with all final ones as its goals, and with the links that are made."""
    table = Table(book, kind)
    return table_net(table, table.finals, _links_made)


def _check_links(book, kind, links):
    """Refuse what is no book, what is no kind of deeds, then what is no integer from 0 to 200."""
    check_deeds(book, kind)
    if not is_count(links) or links > MAX_LINKS:
        raise InvalidNumber(links)


def most_links(book, kind, keys):
    """The greatest number of links of a deed with at most so many keys, None if there is no such deed."""
    check_deeds(book, kind)
    if not is_count(keys):
        raise InvalidNumber(keys)
    search = Search(_links_net(book, kind), _MANY_LINKS, MAX_RANKS)
    search.reach_out(search.roads_within(keys))
    for links in range(search.ahead[-1][0], -1, -1):
        search.wanted = links
        if search.way_below(keys + 1) is not None:
            return links
    return None


def least_keys_for(book, kind, links):
    """The least keys of a deed with at least so many links, None if there is none."""
    _check_links(book, kind, links)
    way = least_way(_links_net(book, kind), links, ranks=MAX_RANKS)
    return way[0] if way is not None else None


def busy_deed(book, kind, links):
    """A right row and a deed with at least so many links and as few keys as possible, None if there is none."""
    _check_links(book, kind, links)
    way = least_way(_links_net(book, kind), links, ranks=MAX_RANKS)
    return told_deed(book.kinds.leaf, kind, way[1]) if way is not None else None


def _exits_of(net):
    """The roads from each spot of a net: pairs of the number of the next spot and of the links that are made."""
    return [list(exits) for exits in net.exits]


def links_bound(book, kind):
    """The greatest number of links that a deed makes, 0 if there are no deeds; None if there is no greatest one."""
    check_deeds(book, kind)
    net = _links_net(book, kind)
    exits = _exits_of(net)
    if steepest_ring(exits) != (0, 1):
        return None
    most = most_gained(exits, net.goals)
    return most if most is not None else 0


def growth(book, kind):
    """The greatest quotient of the links and of the number of moves in a ring, as a pair of coprime integers."""
    check_deeds(book, kind)
    return steepest_ring(_exits_of(_links_net(book, kind)))
