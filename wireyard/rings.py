"""Which names ask which, and whether some of them ask one another in a ring."""

from wireyard.walks import kids_of, made_parts, names_told, parts_by_name


def asks_of(yard):
    """The full names that each full name asks, in the order of the walk."""
    parts = parts_by_name(yard)
    asks = {}
    for path, name, _ in made_parts(yard):
        for row in parts[name][2]:
            if row[0] == "let":
                asks[path + row[1]] = _asked_by(row[2], path)
            if row[0] == "use":
                _, use, used, _, terms = row
                for door, term in zip(names_told(parts[used], "in"), terms):
                    asks[path + use + "." + door] = _asked_by(term, path)
    return asks


def ring_in(asks):
    """Names of which each asks the next one, the last the first; None without a ring."""
    done = {}
    for name in asks:
        ring = _ring_from(name, asks, done)
        if ring is not None:
            return ring
    return None


def _ring_from(start, asks, done):
    """A ring that can be reached from a name; all names on the way that lead to none are then done.

    Lists stand for recursion here: names may ask one another in a long row.
    """
    way = []
    places = {}
    left = [[start]]
    while left:
        if not left[-1]:
            left.pop()
            if way:
                done[way.pop()] = True
            continue
        name = left[-1].pop()
        if name in done:
            continue
        if name in places:
            return way[places[name]:]
        places[name] = len(way)
        way.append(name)
        left.append(list(reversed(asks.get(name, []))))
    return None


def _asked_by(term, path):
    """The full names in a term of a made part, each once, from the left."""
    names = []
    for name in _names_in(term):
        if path + name not in names:
            names.append(path + name)
    return names


def _names_in(term):
    if term[0] == "name":
        return [term[1]]
    if term[0] == "of":
        return [term[1] + "." + term[2]]
    names = []
    for kid in kids_of(term):
        names.extend(_names_in(kid))
    return names
