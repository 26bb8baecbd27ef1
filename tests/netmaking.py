"""Nets made by a fixed row of choices, and a model that goes through nets by the document's words.

The model shares nothing with the package.
"""

import itertools
import random

from sound import two_worth

SIGNS = ("&", "|", "^", "+", "-", "==", "<")


class NetMaker:
    """Makes a net; sides and numbers are chosen so that many rows could be spared."""

    def __init__(self, choice, widths, many):
        self.choice = choice
        self.widths = widths
        self.many = many
        self.rows = []

    def width(self):
        return self.choice.choice(self.widths)

    def word(self, width):
        top = 2 ** width - 1
        return self.choice.choice((0, 0, 1, top, top, self.choice.randint(0, top)))

    def row_of(self, width):
        """A row of a width: one that is there, or else a number."""
        there = [at for at, row in enumerate(self.rows) if row[1] == width]
        if there and self.choice.randrange(8):
            return self.choice.choice(there[-6:] if self.choice.randrange(2) else there)
        return self.add(("number", width, self.word(width)))

    def add(self, row):
        self.rows.append(row)
        return len(self.rows) - 1

    def any_row(self):
        return self.choice.randrange(len(self.rows)) if self.rows else self.row_of(self.width())

    def add_some(self):
        kind = self.choice.choice(self.kinds)
        getattr(self, "add_" + kind)()

    def add_number(self):
        width = self.width()
        self.add(("number", width, self.word(width)))

    def add_in(self):
        k = self.choice.randrange(len(self.ins))
        self.add(("in", self.ins[k][1], k))

    def add_rest(self):
        k = self.choice.randrange(len(self.rests))
        self.add(("rest", self.rests[k][1], k))

    def add_not(self):
        at = self.any_row()
        self.add(("not", self.rows[at][1], at))

    def add_two(self):
        one = self.any_row()
        width = self.rows[one][1]
        other = self.row_of(width) if self.choice.randrange(6) else one
        sign = self.choice.choice(SIGNS)
        self.add(("two", 1 if sign in ("==", "<") else width, sign, one, other))

    def add_pick(self):
        one = self.any_row()
        width = self.rows[one][1]
        other = self.row_of(width) if self.choice.randrange(6) else one
        self.add(("pick", width, self.row_of(1), one, other))

    def add_cut(self):
        at = self.any_row()
        width = self.rows[at][1]
        low = self.choice.randrange(width)
        self.add(("cut", self.choice.randint(1, width - low), at, low))

    def add_join(self):
        one, other = self.any_row(), self.any_row()
        width = self.rows[one][1] + self.rows[other][1]
        if width <= 64:
            self.add(("join", width, one, other))

    def add_fill(self):
        at = self.any_row()
        width = self.rows[at][1]
        self.add(("fill", self.choice.choice([width] + [wide for wide in self.widths if wide >= width]), at))

    def add_table(self):
        k = self.choice.randrange(len(self.tables))
        width = self.choice.choice([wide for wide in (*self.widths, 64) if max(self.tables[k]) < 2 ** wide])
        self.add(("table", width, k, self.any_row()))

    def add_memory(self):
        k = self.choice.randrange(len(self.memories))
        self.add(("memory", self.memories[k][1], k, self.any_row()))

    def made(self, ins, rests, memories):
        choice = self.choice
        self.ins = tuple((f"i{k}", width) for k, width in enumerate(ins))
        self.rests = tuple((f"r{k}", width, self.word(width)) for k, width in enumerate(rests))
        self.memories = tuple((f"m{k}", width, size) for k, (width, size) in enumerate(memories))
        self.tables = tuple(
            tuple(self.word(self.width()) for _ in range(choice.choice((1, 2, 5, 32)))) for _ in range(choice.randrange(3))
        )
        self.kinds = ["number", "not", "two", "two", "two", "two", "pick", "pick", "cut", "cut", "join", "join", "fill"]
        for kind, things in (("in", ins), ("rest", rests), ("table", self.tables), ("memory", memories)):
            self.kinds += [kind] * (2 if things else 0)
        for _ in range(self.many):
            self.add_some()
        rests = tuple((*rest, self.row_of(rest[1])) for rest in self.rests)
        memories = tuple((*memory, self.any_row(), self.row_of(memory[1]), self.row_of(1)) for memory in self.memories)
        outs = tuple((f"o{k}", self.any_row()) for k in range(choice.randrange(4)))
        return (self.ins, tuple(self.rows), outs, rests, self.tables, memories)


def some_nets(many, seed, widths=(1, 2, 3, 8, 31, 64), rows=30):
    choice = random.Random(seed)
    nets = []
    for _ in range(many):
        ins = [choice.choice(widths) for _ in range(choice.randrange(4))]
        rests = [choice.choice(widths) for _ in range(choice.randrange(4))]
        memories = [(choice.choice(widths), choice.choice((1, 2, 4, 32))) for _ in range(choice.randrange(3))]
        nets.append(NetMaker(choice, widths, choice.randint(0, rows)).made(ins, rests, memories))
    return nets


def small_nets(many, seed, rows=16):
    """Nets of so few bits that all their states and all words of their doors can be gone through."""
    choice = random.Random(seed)
    widths = (1, 2, 3)
    nets = []
    for _ in range(many):
        ins = [choice.choice((1, 1, 2)) for _ in range(choice.randrange(3))]
        rests = [choice.choice((1, 1, 2)) for _ in range(choice.randrange(3))]
        memories = [(1, choice.choice((1, 2, 3)))] * choice.choice((0, 0, 1))
        nets.append(NetMaker(choice, widths, choice.randint(2, rows)).made(ins, rests, memories))
    return nets


def some_words(choice, net):
    """Words for the doors in of a net."""
    return {name: choice.choice((0, 1, 2 ** width - 1, choice.randint(0, 2 ** width - 1))) for name, width in net[0]}


def all_words(net):
    """All that may come at the doors in of a net of few bits, in order."""
    names = [name for name, _ in net[0]]
    ranges = [range(2 ** width) for _, width in net[0]]
    return [dict(zip(names, words)) for words in itertools.product(*ranges)]


def first_state(net):
    return (tuple(rest[2] for rest in net[3]), tuple((0,) * memory[2] for memory in net[5]))


def cell(cells, at):
    return cells[at] if at < len(cells) else 0


def next_of(net, state, doors):
    """What a net tells at its doors out in a beat from a state on, and the state behind it."""
    words = words_of(net, state, doors)
    _, _, outs, rests, _, memories = net
    told = {name: words[row] for name, row in outs}
    stores = []
    for cells, (_, _, size, place, value, on) in zip(state[1], memories):
        cells = list(cells)
        if words[on] == 1 and words[place] < size:
            cells[words[place]] = words[value]
        stores.append(tuple(cells))
    return told, (tuple(words[rest[3]] for rest in rests), tuple(stores))


def words_of(net, state, doors):
    ins, rows, _, _, tables, _ = net
    words = []
    for kind, width, *more in rows:
        if kind == "in":
            word = doors[ins[more[0]][0]]
        elif kind == "rest":
            word = state[0][more[0]]
        elif kind == "number":
            word = more[0]
        elif kind == "not":
            word = 2 ** width - 1 - words[more[0]]
        elif kind == "two":
            word, _ = two_worth(more[0], words[more[1]], words[more[2]], rows[more[1]][1])
        elif kind == "pick":
            word = words[more[1]] if words[more[0]] == 1 else words[more[2]]
        elif kind == "cut":
            word = words[more[0]] // 2 ** more[1] % 2 ** width
        elif kind == "join":
            word = words[more[0]] * 2 ** rows[more[1]][1] + words[more[1]]
        elif kind == "fill":
            word = words[more[0]]
        elif kind == "table":
            word = cell(tables[more[0]], words[more[1]])
        else:
            word = cell(state[1][more[0]], words[more[1]])
        words.append(word)
    return words


class NetModel:
    """Goes through a net beat by beat."""

    def __init__(self, net):
        self.net = net
        self.back()

    def back(self):
        self.state = first_state(self.net)

    def beat(self, doors):
        told, self.state = next_of(self.net, self.state, doors)
        return told

    def rests(self):
        return [(rest[0], word) for rest, word in zip(self.net[3], self.state[0])]

    def cells(self):
        return [(memory[0], list(cells)) for memory, cells in zip(self.net[5], self.state[1])]
