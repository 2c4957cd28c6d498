"""Ties of a row put into two free rows, as many as there can be."""


def packed(rule, row):
    """Two free rows of as many names of a row as can be, and a bar that shows it."""
    names = sorted(row)
    rows = ([], [])
    way = way_in(rule, names, rows)
    while way[1] is not None:
        put_in(rows, way)
        way = way_in(rule, names, rows)
    # What names left over could push out, again and again, are as many
    # in each row as they have rank: so no more of them can be put in.
    return (sorted(rows[0]), sorted(rows[1]), sorted(way[0]))


def way_in(rule, names, rows):
    """Walks from the names left over to those that they could push out, the nearest first.

    Told are: of each name met the one that would push it out, or None; the
    first name met that has room in a row, or None; the number of that row.
    """
    pushers = {}
    for name in names:
        if name not in rows[0] and name not in rows[1]:
            pushers[name] = None
    waiting = list(pushers)
    while len(waiting) > 0:
        name = waiting.pop(0)
        for at in range(2):
            if name in rows[at]:
                continue
            if rule.free(rows[at] + [name]):
                return (pushers, name, at)
            # All of them at once, so that no way has a short cut: along one that has, a row may lose its freedom.
            for other in pushed_out(rule, rows[at], name):
                if other not in pushers:
                    pushers[other] = name
                    waiting.append(other)
    return (pushers, None, None)


def pushed_out(rule, row, name):
    """The names of a free row in whose stead it could have another and be free."""
    found = []
    for other in row:
        if rule.free([each for each in row if each != other] + [name]):
            found.append(other)
    return found


def put_in(rows, way):
    """Puts the names of a way in, each where the one that it pushes out was."""
    pushers = way[0]
    name = way[1]
    room = way[2]
    while name is not None:
        left = home_of(rows, name)
        if left is not None:
            rows[left].remove(name)
        rows[room].append(name)
        room = left
        name = pushers[name]


def home_of(rows, name):
    """The number of the row that a name is in, or None."""
    for at in range(2):
        if name in rows[at]:
            return at
    return None
