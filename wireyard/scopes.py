"""What a yard is wired of: its names with their pieces, and the order in which they are reckoned."""

from wireyard.pieces import Scope, piece_of
from wireyard.walks import names_told, parts_by_name, width_number, width_numbers, widths_in


class Wired:
    """Lists of tuples, in the order in which a walk comes to them."""

    def __init__(self, ins, outs):
        self.names = []
        self.resting = []
        self.tables = []
        self.memories = []
        self.ins = list(ins)
        self.outs = list(outs)


def wired_of(yard):
    """What a yard that is let by is wired of."""
    main = yard[-1]
    widths = widths_in(main, ())
    wired = Wired(_doors(main, "in", widths), _doors(main, "out", widths))
    _wire_part(wired, parts_by_name(yard), "", main[0], ())
    return wired


def in_order(names, told):
    """The names with their pieces, each behind all that it asks; those that are told need none ahead."""
    pieces = dict(names)
    asks = {name: pieces[name].asks() for name in pieces}
    begun = {name: True for name in told}
    found = []
    for start, _ in names:
        # A list stands for recursion here: names may ask one another in a long row.
        way = [] if start in begun else [start]
        begun[start] = True
        while way:
            ahead = [asked for asked in asks[way[-1]] if asked not in begun]
            if ahead:
                begun[ahead[0]] = True
                way.append(ahead[0])
            else:
                name = way.pop()
                found.append((name, pieces[name]))
    return found


def scope_of(parts, path, name, numbers):
    """The scope of a made part; its widths may still be none from 1 to 64."""
    part = parts[name]
    by_param = dict(zip(part[1], numbers))
    own = widths_in(part, numbers)
    widths = {}
    stores = {}
    for row in part[2]:
        kind = row[0]
        if kind in ("in", "out", "wire", "rest"):
            widths[row[1]] = own[row[1]]
        elif kind == "table":
            stores[row[1]] = (own[row[1]], row[3])
        elif kind == "memory":
            stores[row[1]] = (own[row[1]], None)
        elif kind == "use":
            widths.update(_widths_out(parts, row, by_param))
    return Scope(path, by_param, widths, stores)


def _widths_out(parts, row, by_param):
    """The widths of the doors out of a used part, as terms ask them."""
    _, use, used, widths, _ = row
    inner = widths_in(parts[used], width_numbers(widths, by_param))
    return {use + "." + door: inner[door] for door in names_told(parts[used], "out")}


def _doors(part, kind, widths):
    return [(name, widths[name]) for name in names_told(part, kind)]


def _wire_part(wired, parts, path, name, numbers):
    """A made part and, each at its use, all that it makes."""
    scope = scope_of(parts, path, name, numbers)
    for row in parts[name][2]:
        if row[0] == "use":
            _, use, used, widths, terms = row
            inner = path + use + "."
            for door, term in zip(names_told(parts[used], "in"), terms):
                wired.names.append((inner + door, piece_of(term, scope)))
            _wire_part(wired, parts, inner, used, width_numbers(widths, scope.numbers))
        else:
            _wire_row(wired, row, scope)


def _wire_row(wired, row, scope):
    kind = row[0]
    name = scope.full(row[1])
    if kind == "let":
        wired.names.append((name, piece_of(row[2], scope)))
    if kind == "rest":
        wired.resting.append((name, scope.width_of(row[2]), row[3], piece_of(row[4], scope)))
    if kind == "table":
        wired.tables.append((name, row[3]))
    if kind == "memory":
        place, value, on = [piece_of(term, scope) for term in row[4:]]
        wired.memories.append((name, scope.width_of(row[2]), row[3], place, value, on))
