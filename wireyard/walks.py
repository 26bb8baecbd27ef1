"""Going through terms, through the rows of a part, and through the parts that a yard makes."""


def kids_of(term):
    """The terms right within a term, from the left."""
    kind = term[0]
    if kind in ("not", "cut", "fill"):
        return [term[1]]
    if kind == "at":
        return [term[2]]
    if kind == "two":
        return [term[2], term[3]]
    if kind == "join":
        return [term[1], term[2]]
    if kind == "pick":
        return [term[1], term[2], term[3]]
    return []


def width_number(width, numbers):
    """The number that a width comes to, numbers a dict from params to numbers."""
    name, number = width
    if name == "":
        return number
    return numbers[name] + number


def width_numbers(widths, numbers):
    """What the widths of a use come to: the numbers of the part that it makes."""
    return tuple([width_number(width, numbers) for width in widths])


def row_widths(row):
    """The widths that stand in a row, but those within its terms."""
    if row[0] == "use":
        return list(row[3])
    if row[0] == "let":
        return []
    return [row[2]]


def row_terms(row):
    """The terms of a row, from the left."""
    kind = row[0]
    if kind == "let":
        return [row[2]]
    if kind == "rest":
        return [row[4]]
    if kind == "use":
        return list(row[4])
    if kind == "memory":
        return list(row[4:])
    return []


def names_told(part, kind):
    """The names that the rows of a kind tell in a part, in order."""
    return [row[1] for row in part[2] if row[0] == kind]


def widths_in(part, numbers):
    """The widths of the names that a part's rows tell, but of those of uses."""
    _, params, rows = part
    by_param = dict(zip(params, numbers))
    return {row[1]: width_number(row[2], by_param) for row in rows if row[0] not in ("let", "use")}


def parts_by_name(yard):
    return {part[0]: part for part in yard}


def made_parts(yard):
    """Path, name and params' numbers of each made part, in the order of the walk."""
    main = yard[-1]
    return tuple(_made_from(parts_by_name(yard), "", main[0], ()))


def _made_from(parts, path, name, numbers):
    """A made part and behind it all that it makes."""
    _, params, rows = parts[name]
    by_param = dict(zip(params, numbers))
    made = [(path, name, numbers)]
    for row in rows:
        if row[0] == "use":
            _, use, used, widths, _ = row
            inner = width_numbers(widths, by_param)
            made.extend(_made_from(parts, path + use + ".", used, inner))
    return made
