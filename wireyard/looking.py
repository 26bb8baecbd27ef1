"""Looking a yard through: what is wrong with it is refused, what comes first ahead of all else."""

from wireyard.errors import BadWidth, Ring, TooDeep, TooMany
from wireyard.fitting import need_widths
from wireyard.naming import NO_ROW, need_names
from wireyard.rings import asks_of, ring_in
from wireyard.walks import parts_by_name

MOST_DEEP = 4
MOST_NAMES = 300


def looked(yard):
    """None of a yard that is let by; all else is refused."""
    need_names(yard)
    _need_made(yard)
    need_widths(yard)
    ring = ring_in(asks_of(yard))
    if ring is not None:
        raise Ring(ring)


def _need_made(yard):
    """The second going: that not too much is made."""
    name, params, _ = yard[-1]
    if params:
        raise BadWidth(name, NO_ROW, params[0])
    _names_with(parts_by_name(yard), name, 1, 0)


def _names_with(parts, name, deep, told):
    """How many names there are with those of a part, made so deep, and of all that it makes; told were ahead."""
    rows = parts[name][2]
    many = told + len([row for row in rows if row[0] != "let"])
    if many > MOST_NAMES:
        raise TooMany(f"more than {MOST_NAMES} names")
    for at, row in enumerate(rows):
        if row[0] == "use":
            if deep == MOST_DEEP:
                raise TooDeep(name, at, row[1])
            many = _names_with(parts, row[2], deep + 1, many)
    return many
