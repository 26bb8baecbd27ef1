"""The third going of looking: widths, made part by made part."""

from wireyard.bits import is_width, is_word, two_width
from wireyard.errors import BadWidth
from wireyard.scopes import scope_of
from wireyard.walks import kids_of, made_parts, names_told, parts_by_name, row_widths, width_numbers, widths_in


def need_widths(yard):
    """Refuses a yard in which widths are none, or do not fit."""
    parts = parts_by_name(yard)
    for path, name, numbers in made_parts(yard):
        scope = scope_of(parts, path, name, numbers)
        for at, row in enumerate(parts[name][2]):
            if not _row_fits(row, scope, parts):
                raise BadWidth(name, at, row[1])


def _row_fits(row, scope, parts):
    if not all([is_width(scope.width_of(width)) for width in row_widths(row)]):
        return False
    kind = row[0]
    if kind == "let":
        return _term_width(row[2], scope) == scope.widths[row[1]]
    if kind == "use":
        return _use_fits(row, scope, parts)
    width = scope.width_of(row[2])
    if kind == "rest":
        return is_word(row[3], width) and _term_width(row[4], scope) == width
    if kind == "table":
        return all([is_word(number, width) for number in row[3]])
    if kind == "memory":
        _, _, _, _, place, value, on = row
        if _term_width(place, scope) is None:
            return False
        return _term_width(value, scope) == width and _term_width(on, scope) == 1
    return True


def _use_fits(row, scope, parts):
    _, _, used, widths, terms = row
    inner = widths_in(parts[used], width_numbers(widths, scope.numbers))
    doors = names_told(parts[used], "in")
    return all([_term_width(term, scope) == inner[door] for door, term in zip(doors, terms)])


def _term_width(term, scope):
    """The width of a term, None where something in it does not fit.

    A name's width may be none from 1 to 64 here: that is refused at the row that tells the name.
    """
    sides = [_term_width(kid, scope) for kid in kids_of(term)]
    if None in sides:
        return None
    kind = term[0]
    if kind == "name":
        return scope.widths[term[1]]
    if kind == "of":
        return scope.widths[term[1] + "." + term[2]]
    if kind == "at":
        return scope.stores[term[1]][0]
    if kind == "not":
        return sides[0]
    if kind == "two":
        return two_width(term[1], sides[0]) if sides[0] == sides[1] else None
    if kind == "pick":
        return sides[1] if sides[0] == 1 and sides[1] == sides[2] else None
    if kind == "join":
        return sides[0] + sides[1] if is_width(sides[0] + sides[1]) else None
    return _told_width(term, scope, sides)


def _told_width(term, scope, sides):
    """The width of a number, a cut or a fill, which tell their own."""
    kind = term[0]
    width = scope.width_of(term[-1])
    if not is_width(width):
        return None
    if kind == "number":
        return width if is_word(term[1], width) else None
    if kind == "cut":
        return width if term[2] + width <= sides[0] else None
    return width if sides[0] <= width else None
