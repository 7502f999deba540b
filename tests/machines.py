"""A machine that the tests make by themselves: it goes by the lines of a book, and by nothing else of the package."""


def names_of(text):
    """The names in a text like a+a+b; 0 stands for none."""
    return () if text == "0" else tuple(text.split("+"))


def pages_of(lines):
    """The dict from places to what the lines of pages tell there: the kinds that are made, and the next note."""
    found = {}
    for line in lines:
        if line.startswith("page "):
            _, note, pool, _, made, _, after = line.split(" ")
            found[note, names_of(pool)] = (names_of(made), after)
    return found


def makings_of(lines):
    """The dict from kinds to makings that lines tell."""
    return {line.split(" ")[1]: names_of(line.split(" ")[2]) for line in lines if line.startswith("kind ")}


def at_rank(lines, note, pool):
    """The new digit, what is made, and the next note."""
    pages, makings = pages_of(lines), makings_of(lines)
    if (note, pool) not in pages:
        return pool, (), note
    made, after = pages[note, pool]
    left = list(pool)
    for name in made:
        for part in makings[name]:
            left.remove(part)
    return tuple(left), made, after


def gone(lines, note, rows, carried=()):
    """The new row and the steps if these rows are added, from rank 0 on."""
    new, steps, rank = [], [], 0
    while rank < max([len(row) for row in rows], default=0) or carried:
        pool = list(carried)
        for row in rows:
            if rank < len(row):
                pool.extend(row[rank])
        pool = tuple(sorted(pool))
        digit, carried, note = at_rank(lines, note, pool)
        new.append(digit)
        steps.append((pool, carried, note))
        rank += 1
    while new and not new[-1]:
        new.pop()
    return tuple(new), tuple(steps)
