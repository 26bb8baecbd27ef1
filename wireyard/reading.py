"""Reading: a yard from a text, and a single term from a text."""

from wireyard.cursor import Cursor, width_at
from wireyard.errors import BadText
from wireyard.signs import words_of
from wireyard.terms import term_at

MOST_SIGNS = 8000
MOST_LINES = 400
MOST_PARTS = 20
MOST_PARAMS = 3
MOST_ROWS = 60
MOST_TERMS = 12
MOST_NUMBERS = 32
MOST_CELLS = 32


def read(text):
    """The yard that a text tells."""
    _need_text(text)
    lines = text.split("\n")
    if len(lines) > MOST_LINES:
        raise BadText(None)
    parts = []
    for at, line in enumerate(lines):
        _add_line(parts, _cursor_of(line, at))
    if not parts or not parts[-1][2]:
        raise BadText(len(lines))
    return tuple([(name, params, tuple(rows)) for name, params, rows in parts])


def term_in(text):
    """The term that a text is."""
    _need_text(text)
    cursor = _cursor_of(text, 0)
    term = term_at(cursor)
    cursor.need_end()
    return term


def _need_text(text):
    if not isinstance(text, str) or len(text) > MOST_SIGNS:
        raise BadText(None)


def _cursor_of(line, at):
    words = words_of(line)
    if words is None:
        raise BadText(at)
    return Cursor(words, at)


def _add_line(parts, cursor):
    """Begins a part, or adds a row to the last one's list of rows."""
    if cursor.seen() is None:
        return
    if cursor.skip("part"):
        if len(parts) == MOST_PARTS or (parts and not parts[-1][2]):
            raise BadText(cursor.row)
        parts.append(_head_at(cursor))
    else:
        if not parts or len(parts[-1][2]) == MOST_ROWS:
            raise BadText(cursor.row)
        parts[-1][2].append(_row_at(cursor))
    cursor.need_end()


def _head_at(cursor):
    """A part without rows: its name, its params, an empty list."""
    name = cursor.take("name")
    params = []
    while cursor.has("name"):
        params.append(cursor.take("name"))
    if len(params) > MOST_PARAMS:
        raise BadText(cursor.row)
    return (name, tuple(params), [])


def _row_at(cursor):
    word = cursor.take("told")
    name = cursor.take("name")
    if word in ("in", "out", "wire"):
        return (word, name, width_at(cursor))
    if word == "rest":
        return _rest_at(cursor, name)
    if word == "let":
        cursor.need("=")
        return ("let", name, term_at(cursor))
    if word == "use":
        return _use_at(cursor, name)
    if word == "table":
        width = width_at(cursor)
        cursor.need(":")
        return ("table", name, width, _listed(cursor, _number_at, MOST_NUMBERS))
    if word == "memory":
        return _memory_at(cursor, name)
    raise BadText(cursor.row)


def _rest_at(cursor, name):
    width = width_at(cursor)
    first = _number_at(cursor)
    cursor.need("=")
    return ("rest", name, width, first, term_at(cursor))


def _use_at(cursor, name):
    part = cursor.take("name")
    widths = ()
    if cursor.skip("("):
        widths = _listed(cursor, width_at, MOST_PARAMS)
        cursor.need(")")
    terms = ()
    if cursor.skip(":"):
        terms = _listed(cursor, term_at, MOST_TERMS)
    return ("use", name, part, widths, terms)


def _memory_at(cursor, name):
    width = width_at(cursor)
    size = cursor.take_number(1, MOST_CELLS)
    cursor.need(":")
    place = term_at(cursor)
    cursor.need(",")
    value = term_at(cursor)
    cursor.need(",")
    return ("memory", name, width, size, place, value, term_at(cursor))


def _number_at(cursor):
    return cursor.take("number")


def _listed(cursor, one_at, most):
    """One thing and more of its kind, with commas between."""
    things = [one_at(cursor)]
    while cursor.skip(","):
        things.append(one_at(cursor))
    if len(things) > most:
        raise BadText(cursor.row)
    return tuple(things)
