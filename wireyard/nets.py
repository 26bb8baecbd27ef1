"""Nets: rows of words, each reckoned from rows ahead of it, and what leads into them and out of them."""

from wireyard.bits import cut_word, is_whole, is_width, is_word, joined_words, turned, two_width, two_words
from wireyard.errors import BadNet

MOST_NET_ROWS = 3000
MOST_SIZE = 32
TABLE_WIDTH = 64
TWO_SIGNS = ("&", "|", "^", "+", "-", "==", "<")
# How long the rows of a kind are, and where in them the rows stand that they ask.
LENGTHS = {
    "in": 3, "rest": 3, "number": 3, "not": 3, "two": 5, "pick": 5, "cut": 4, "join": 4, "fill": 3, "table": 4,
    "memory": 4,
}
ASKED_AT = {
    "in": (), "rest": (), "number": (), "not": (2,), "two": (3, 4), "pick": (2, 3, 4), "cut": (2,), "join": (2, 3),
    "fill": (2,), "table": (3,), "memory": (3,),
}


def is_net(thing):
    """Whether a thing, of any kind, is a net."""
    if not _is_tuple_of(thing, 6) or not all([isinstance(things, tuple) for things in thing]):
        return False
    ins, rows, outs, rests, tables, memories = thing
    return (
        all([_is_named(door, 2) and is_width(door[1]) for door in ins])
        and all([_is_named(door, 2) for door in outs])
        and all([_is_rest(rest) for rest in rests])
        and all([_is_table(table) for table in tables])
        and all([_is_memory(memory) for memory in memories])
        and all([_stand_once(things) for things in (ins, outs, rests, memories)])
        and _are_rows(rows, thing)
        and _are_led(thing)
    )


def need_net(thing):
    if not is_net(thing):
        raise BadNet("this is no net")


def asked_by(row):
    """The rows that a row asks, as they stand in it."""
    return [row[at] for at in ASKED_AT[row[0]]]


def led_to(row, numbers):
    """The same row, but asking these rows."""
    places = ASKED_AT[row[0]]
    led = list(row)
    for at, number in zip(places, numbers):
        led[at] = number
    return tuple(led)


def cell_at(cells, at):
    """The cell at a place, 0 beyond the last."""
    return cells[at] if at < len(cells) else 0


def worth_of(row, words, rows, tables):
    """The word of a row that asks others, but of a memory's; words leads from rows to words."""
    kind, width = row[0], row[1]
    asked = [words[number] for number in asked_by(row)]
    if kind == "not":
        return turned(asked[0], width)
    if kind == "two":
        return two_words(row[2], asked[0], asked[1], width)
    if kind == "pick":
        return asked[1] if asked[0] == 1 else asked[2]
    if kind == "cut":
        return cut_word(asked[0], row[3], width)
    if kind == "join":
        return joined_words(asked[0], asked[1], rows[row[3]][1])
    if kind == "fill":
        return asked[0]
    return cell_at(tables[row[2]], asked[0])


def _is_tuple_of(thing, many):
    return isinstance(thing, tuple) and len(thing) == many


def _is_place(thing, many):
    return is_whole(thing) and 0 <= thing < many


def _is_named(thing, many):
    """Whether a thing is a tuple of so many, the first of them a name."""
    return _is_tuple_of(thing, many) and isinstance(thing[0], str)


def _is_rest(thing):
    return _is_named(thing, 4) and is_width(thing[1]) and is_word(thing[2], thing[1])


def _is_table(thing):
    if not isinstance(thing, tuple) or not 1 <= len(thing) <= MOST_SIZE:
        return False
    return all([is_word(number, TABLE_WIDTH) for number in thing])


def _is_memory(thing):
    return _is_named(thing, 6) and is_width(thing[1]) and is_whole(thing[2]) and 1 <= thing[2] <= MOST_SIZE


def _stand_once(things):
    return len({thing[0] for thing in things}) == len(things)


def _are_rows(rows, net):
    if len(rows) > MOST_NET_ROWS:
        return False
    for at, row in enumerate(rows):
        if not _is_shaped(row) or not all([_is_place(number, at) for number in asked_by(row)]):
            return False
        # The rows that it asks are ahead of it, so that they have been found good by now.
        if not _fits(row, [rows[number][1] for number in asked_by(row)], net):
            return False
    return True


def _is_shaped(row):
    """Whether a thing is a tuple with a kind of rows and a width, and as long as such rows are."""
    if not isinstance(row, tuple) or not row or not isinstance(row[0], str):
        return False
    return row[0] in LENGTHS and len(row) == LENGTHS[row[0]] and is_width(row[1])


def _fits(row, sides, net):
    """Whether a row goes together with the widths of the rows that it asks, and with what else it means."""
    kind, width = row[0], row[1]
    if kind == "number":
        return is_word(row[2], width)
    if kind == "not":
        return sides[0] == width
    if kind == "two":
        return _two_fits(row, sides)
    if kind == "pick":
        return sides == [1, width, width]
    if kind == "cut":
        return is_whole(row[3]) and 0 <= row[3] and row[3] + width <= sides[0]
    if kind == "join":
        return sides[0] + sides[1] == width
    if kind == "fill":
        return sides[0] <= width
    return _source_fits(row, net)


def _two_fits(row, sides):
    if not isinstance(row[2], str) or row[2] not in TWO_SIGNS or sides[0] != sides[1]:
        return False
    return row[1] == two_width(row[2], sides[0])


def _source_fits(row, net):
    """Whether a row that means a door in, a rest, a table or a memory has its width."""
    kind, width, number = row[0], row[1], row[2]
    ins, _, _, rests, tables, memories = net
    if kind == "table":
        return _is_place(number, len(tables)) and all([is_word(word, width) for word in tables[number]])
    meant = {"in": ins, "rest": rests, "memory": memories}[kind]
    return _is_place(number, len(meant)) and meant[number][1] == width


def _are_led(net):
    """Whether doors out, rests and memories lead to rows, of the widths that they want."""
    _, rows, outs, rests, _, memories = net
    widths = [row[1] for row in rows]
    if not all([_is_place(door[1], len(rows)) for door in outs]):
        return False
    for rest in rests:
        if not _leads(rest[3], rest[1], widths):
            return False
    for memory in memories:
        _, width, _, place, value, on = memory
        if not _is_place(place, len(rows)) or not _leads(value, width, widths) or not _leads(on, 1, widths):
            return False
    return True


def _leads(number, wanted, widths):
    """Whether a thing is a row of the width that is wanted."""
    return _is_place(number, len(widths)) and widths[number] == wanted
