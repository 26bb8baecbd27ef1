"""The net of a yard: all its terms as rows, each behind the rows that it asks."""

from wireyard.errors import TooMany
from wireyard.looking import looked
from wireyard.nets import MOST_NET_ROWS
from wireyard.pieces import NamePiece
from wireyard.scopes import wired_of
from wireyard.steps import order_of


class Flattening:
    """The rows that there are so far, and which of them the names with words have."""

    def __init__(self, wired):
        self.rows = []
        self.row_by_name = {}
        self.places = {table[0]: k for k, table in enumerate(wired.tables)}
        self.places.update({memory[0]: k for k, memory in enumerate(wired.memories)})

    def put(self, row):
        """The place of a row that is put behind all others."""
        if len(self.rows) == MOST_NET_ROWS:
            raise TooMany(f"more than {MOST_NET_ROWS} rows")
        self.rows.append(row)
        return len(self.rows) - 1

    def put_source(self, kind, k, name, width):
        self.row_by_name[name] = self.put((kind, width, k))

    def row_of(self, piece):
        """The place of the row that tells a piece; all rows that are not there yet are put."""
        if isinstance(piece, NamePiece):
            return self.row_by_name[piece.name]
        sides = [self.row_of(part) for part in piece.parts()]
        return self.put(piece.net_row(sides, self.places))


def flat(yard):
    """The net that tells in each beat what the yard tells."""
    looked(yard)
    wired = wired_of(yard)
    flattening = Flattening(wired)
    for k, (name, width) in enumerate(wired.ins):
        flattening.put_source("in", k, name, width)
    for k, (name, width, _, _) in enumerate(wired.resting):
        flattening.put_source("rest", k, name, width)
    for name, piece in order_of(wired):
        flattening.row_by_name[name] = flattening.row_of(piece)
    rests = [(name, width, first, flattening.row_of(piece)) for name, width, first, piece in wired.resting]
    memories = [_memory_by(memory, flattening) for memory in wired.memories]
    outs = [(name, flattening.row_by_name[name]) for name, _ in wired.outs]
    tables = [numbers for _, numbers in wired.tables]
    return (tuple(wired.ins), tuple(flattening.rows), tuple(outs), tuple(rests), tuple(tables), tuple(memories))


def _memory_by(memory, flattening):
    name, width, size, place, value, on = memory
    return (name, width, size, flattening.row_of(place), flattening.row_of(value), flattening.row_of(on))
