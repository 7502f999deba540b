"""Trees and heaps that the tests keep by themselves. A tree is a tuple (way, key, children), a heap a list of lists."""

from tests.machines import at_rank, makings_of


def plain(tree):
    """A tree of the package as the tests keep it."""
    return tree.way, tree.key, tuple(tuple(plain(child) for child in digit) for digit in tree.children)


def plain_heap(heap):
    """The trees of a heap of the package as the tests keep them."""
    return [[plain(tree) for tree in digit] for digit in heap.trees]


def single(leaf, key):
    """A tree of a single node."""
    return (leaf,), key, ()


def linked(name, trees):
    """The trees linked: the first one with the least key wins."""
    winner = min(range(len(trees)), key=lambda at: (trees[at][1], at))
    way, key, children = trees[winner]
    return (*way, name), key, (*children, tuple(tree for at, tree in enumerate(trees) if at != winner))


def keys_in(tree):
    """All keys of a tree."""
    return [tree[1], *[key for digit in tree[2] for child in digit for key in keys_in(child)]]


def row_of_heap(trees):
    """The row of the kinds of trees."""
    return tuple(tuple(tree[0][-1] for tree in digit) for digit in trees)


def by_kind(trees):
    """Trees sorted by kind, those of one kind in their order."""
    return [tree for kind in sorted({tree[0][-1] for tree in trees}) for tree in trees if tree[0][-1] == kind]


def behind(lines, note, heaps, carried):
    """The trees behind a deed that adds these heaps, right or not, step by step."""
    makings, new, rank = makings_of(lines), [], 0
    while rank < max(len(heap) for heap in heaps) or carried:
        pool = [tree for heap in heaps if rank < len(heap) for tree in heap[rank]] + carried
        _, made, note = at_rank(lines, note, tuple(sorted(tree[0][-1] for tree in pool)))
        carried = []
        for name in made:
            parts = []
            for part in makings[name]:
                first = next(at for at, tree in enumerate(pool) if tree[0][-1] == part)
                parts.append(pool.pop(first))
            carried.append(linked(name, parts))
        new.append(by_kind(pool))
        rank += 1
    while new and not new[-1]:
        new.pop()
    return new


def after_put(book, heap, key):
    """The trees behind a put."""
    return behind(book.lines, book.starts["put"], [heap], [single(book.kinds.leaf, key)])


def after_meld(book, heap, other):
    """The trees behind a meld."""
    return behind(book.lines, book.starts["meld"], [heap, other], [])


def place_of_least(heap):
    """The place of the first tree with the least key."""
    places = [(tree[1], rank, at) for rank, digit in enumerate(heap) for at, tree in enumerate(digit)]
    return min(places)[1:]


def after_take(book, heap):
    """The trees behind a take of the least key."""
    rank, at = place_of_least(heap)
    rest = [list(digit) for digit in heap]
    tree = rest[rank].pop(at)
    return behind(book.lines, book.starts["take"], [rest, [by_kind(digit) for digit in tree[2]]], [])
