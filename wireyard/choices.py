"""Nets told by diagrams: words are lists of knots, the lowest bit first.

The knots 0 and 1 tell of all words what they are called, so that a number's bits are knots as they are.
"""

from wireyard.bits import cut_word
from wireyard.nets import asked_by, worth_of
from wireyard.reach import rows_read


class Told:
    """A net in one beat: rests and cells have the words first, the doors in the words doors.

    first is a tuple of the rests' words and of the memories' lists of words. The words of the doors out are in outs,
    those that rests and cells have next in after: first the rests', then all cells', in order.
    """

    def __init__(self, diagrams, net, first, doors):
        self.diagrams = diagrams
        self.rows = net[1]
        self.tables = net[4]
        self.resting, self.stores = first
        self.doors = doors
        self.words = []
        for row, read in zip(self.rows, rows_read(net)):
            self.words.append(self.word_of(row) if read else [])
        self.outs = [self.words[row] for _, row in net[2]]
        self.after = [self.words[rest[3]] for rest in net[3]]
        for cells, memory in zip(self.stores, net[5]):
            place, value, on = [self.words[row] for row in memory[3:]]
            self.after.extend(written_words(diagrams, cells, place, value, on[0]))

    def word_of(self, row):
        """The word of a row, by those of the rows ahead of it."""
        kind, width, k = row[0], row[1], row[2]
        if kind == "in":
            return self.doors[k]
        if kind == "rest":
            return self.resting[k]
        if kind == "number":
            return number_word(k, width)
        asked = [self.words[number] for number in asked_by(row)]
        if kind == "table":
            return cell_word(self.diagrams, [number_word(number, width) for number in self.tables[k]], asked[0])
        if kind == "memory":
            return cell_word(self.diagrams, self.stores[k], asked[0])
        known = [known_number(word) for word in asked]
        if None in known:
            return self.word_by(row, asked)
        # Most rows of most nets ask no doors: a number is found far sooner at once than bit by bit.
        return number_word(worth_of(row, dict(zip(asked_by(row), known)), self.rows, self.tables), width)

    def word_by(self, row, asked):
        """The word of a row by the words that it asks, bit by bit."""
        kind, width = row[0], row[1]
        if kind == "not":
            return turned_word(self.diagrams, asked[0])
        if kind == "two":
            return two_word(self.diagrams, row[2], asked[0], asked[1])
        if kind == "pick":
            return chosen_word(self.diagrams, asked[0][0], asked[1], asked[2])
        if kind == "cut":
            return asked[0][row[3]:row[3] + width]
        if kind == "join":
            return asked[1] + asked[0]
        return asked[0] + [0] * (width - len(asked[0]))


def number_word(number, width):
    return [cut_word(number, at, 1) for at in range(width)]


def known_number(word):
    """The number whose bits all knots tell, None where a knot is another than 0 and 1."""
    if max(word) > 1:
        return None
    return sum([knot << at for at, knot in enumerate(word)])


def turned_word(diagrams, word):
    return [diagrams.turned(knot) for knot in word]


def chosen_word(diagrams, test, one, other):
    """The one word where a knot tells 1, else the other one."""
    return [diagrams.chosen(test, knot, beside) for knot, beside in zip(one, other)]


def two_word(diagrams, sign, one, other):
    """What a sign makes of two words of one width."""
    if sign == "&":
        return [diagrams.both(knot, beside) for knot, beside in zip(one, other)]
    if sign == "|":
        return [diagrams.either(knot, beside) for knot, beside in zip(one, other)]
    if sign == "^":
        return [diagrams.unlike(knot, beside) for knot, beside in zip(one, other)]
    if sign == "+":
        return sum_word(diagrams, one, other, 0)
    if sign == "-":
        return sum_word(diagrams, one, turned_word(diagrams, other), 1)
    if sign == "==":
        return [alike_knot(diagrams, one, other)]
    return [less_knot(diagrams, one, other)]


def sum_word(diagrams, one, other, carry):
    """The sum of two words and of a knot, without what goes beyond their width."""
    bits = []
    for knot, beside in zip(one, other):
        half = diagrams.unlike(knot, beside)
        bits.append(diagrams.unlike(half, carry))
        carry = diagrams.chosen(half, carry, knot)
    return bits


def alike_knot(diagrams, one, other):
    """What tells 1 where two words are the same."""
    told = 1
    for knot, beside in zip(one, other):
        told = diagrams.both(told, diagrams.turned(diagrams.unlike(knot, beside)))
    return told


def less_knot(diagrams, one, other):
    """What tells 1 where the one word is less than the other one."""
    told = 0
    for knot, beside in zip(one, other):
        # Higher bits that are unlike outdo all that lower ones told.
        told = diagrams.chosen(diagrams.unlike(knot, beside), beside, told)
    return told


def cell_word(diagrams, cells, place):
    """The word of the cell at a place, 0 beyond the last one."""
    nought = [0] * len(cells[0])
    number = known_number(place)
    if number is not None:
        return cells[number] if number < len(cells) else nought
    left = list(cells)
    for bit in place:
        if len(left) % 2 == 1:
            left.append(nought)
        left = [chosen_word(diagrams, bit, left[at + 1], left[at]) for at in range(0, len(left), 2)]
    return left[0]


def written_words(diagrams, cells, place, value, on):
    """The cells behind a beat that writes a value at a place where a knot tells 1."""
    words = []
    for at, cell in enumerate(cells):
        # A cell whose number is wider than the place is never written.
        is_here = 0
        if at >> len(place) == 0:
            is_here = diagrams.both(on, alike_knot(diagrams, place, number_word(at, len(place))))
        words.append(chosen_word(diagrams, is_here, value, cell))
    return words
