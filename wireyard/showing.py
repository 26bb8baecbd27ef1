"""Showing: the text of a yard, and of a single term."""

from wireyard.binding import LONE_LEVEL, PICK_LEVEL, SIGN_LEVELS, TIGHT_LEVEL


def shown(yard):
    """The text that is read as this yard."""
    lines = []
    for name, params, rows in yard:
        lines.append(" ".join(["part", name, *params]))
        lines.extend(["  " + _row_text(row) for row in rows])
    return "\n".join(lines)


def term_text(term):
    """The text that is read as this term."""
    kind = term[0]
    if kind == "two":
        return _two_text(term)
    if kind == "not":
        return "~" + _side_text(term[1], TIGHT_LEVEL)
    if kind == "pick":
        test = _side_text(term[1], PICK_LEVEL + 1)
        one = _side_text(term[2], PICK_LEVEL + 1)
        return f"if {test} then {one} else {term_text(term[3])}"
    return _tight_text(term)


def _two_text(term):
    _, sign, one, other = term
    level = SIGN_LEVELS[sign]
    left = _side_text(one, level + 1 if level == LONE_LEVEL else level)
    right = _side_text(other, level + 1)
    return f"{left} {sign} {right}"


def _tight_text(term):
    kind = term[0]
    if kind == "number":
        return f"{term[1]}:{_width_text(term[2])}"
    if kind == "name":
        return term[1]
    if kind == "of":
        return term[1] + "." + term[2]
    if kind == "at":
        return f"{term[1]}[{term_text(term[2])}]"
    if kind == "cut":
        return f"cut({term_text(term[1])}, {term[2]}, {_width_text(term[3])})"
    if kind == "join":
        return f"join({term_text(term[1])}, {term_text(term[2])})"
    return f"fill({term_text(term[1])}, {_width_text(term[2])})"


def _side_text(term, least):
    """A term's text, in brackets where its outer sign binds less than is wanted."""
    if _level_of(term) < least:
        return f"({term_text(term)})"
    return term_text(term)


def _level_of(term):
    if term[0] == "pick":
        return PICK_LEVEL
    if term[0] == "two":
        return SIGN_LEVELS[term[1]]
    return TIGHT_LEVEL


def _width_text(width):
    name, number = width
    if name == "":
        return str(number)
    if number == 0:
        return name
    if number < 0:
        return f"({name} - {-number})"
    return f"({name} + {number})"


def _row_text(row):
    kind = row[0]
    if kind == "use":
        return _use_text(row)
    if kind == "let":
        return f"let {row[1]} = {term_text(row[2])}"
    head = f"{kind} {row[1]} {_width_text(row[2])}"
    if kind == "rest":
        return f"{head} {row[3]} = {term_text(row[4])}"
    if kind == "table":
        return head + ": " + ", ".join([str(number) for number in row[3]])
    if kind == "memory":
        return f"{head} {row[3]}: " + ", ".join([term_text(term) for term in row[4:]])
    return head


def _use_text(row):
    _, name, part, widths, terms = row
    text = f"use {name} {part}"
    if widths:
        text += "(" + ", ".join([_width_text(width) for width in widths]) + ")"
    if terms:
        text += ": " + ", ".join([term_text(term) for term in terms])
    return text
