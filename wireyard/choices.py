"""Nets told by knots: words are lists of knots, the lowest bit first.

The knots are those of Diagrams, or the columns of Columns in place of them: 0 tells 0 of all words and whole tells 1 of
all, so that the bits of a number are knots as well.
"""

from wireyard.nets import asked_by, cell_at, worth_of
from wireyard.reach import rows_read


class Told:
    """A net in one beat: rests and cells have the words first, the doors in the words doors.

    first is a tuple of the rests' words and of the memories' lists of words. The words of the doors out are in outs,
    those that rests and cells have next in after: first the rests', then all cells', in order.

    A word that is the same whatever comes may be handed in as a number, and within it is kept as one: most rows of most
    nets ask no doors, and a number is found far sooner at once than bit by bit.
    """

    def __init__(self, diagrams, net, first, doors):
        self.diagrams = diagrams
        self.net = net
        self.doors = [kept_word(diagrams, word) for word in doors]
        self.read = rows_read(net)
        self.asked = [None] * len(net[1])
        self.words = [None] * len(net[1])
        self.tell(first)

    def tell(self, first):
        """Tells the net anew, rests and cells having other words first."""
        self.resting = [kept_word(self.diagrams, word) for word in first[0]]
        self.stores = [[kept_word(self.diagrams, cell) for cell in cells] for cells in first[1]]
        for at, row in enumerate(self.net[1]):
            if self.read[at]:
                self.tell_row(at, row)
        self.outs = [self.knots_at(row) for _, row in self.net[2]]
        self.after = [self.knots_at(rest[3]) for rest in self.net[3]]
        for cells, memory in zip(self.stores, self.net[5]):
            self.after.extend(self.written(cells, memory))

    def tell_row(self, at, row):
        asked = self.asked_words(row)
        # A row tells as it told ahead where all that it asks does: rows that only the doors lead to are told once.
        if asked != self.asked[at]:
            self.words[at] = self.word_of(row, asked)
            self.asked[at] = asked

    def asked_words(self, row):
        """The words that a row's word is made of."""
        kind, k = row[0], row[2]
        if kind == "in":
            return [self.doors[k]]
        if kind == "rest":
            return [self.resting[k]]
        if kind == "number":
            return [k]
        asked = [self.words[number] for number in asked_by(row)]
        if kind == "table":
            asked.extend(self.net[4][k])
        if kind == "memory":
            asked.extend(self.stores[k])
        return asked

    def word_of(self, row, asked):
        """The word of a row by the words that it is made of."""
        kind = row[0]
        if kind in ("in", "rest", "number"):
            return asked[0]
        if kind in ("table", "memory"):
            return kept_word(self.diagrams, self.cell_of(asked[1:], asked[0], row[1]))
        if all([isinstance(word, int) for word in asked]):
            return worth_of(row, self.words, self.net[1], self.net[4])
        knots = [self.knots_at(number) for number in asked_by(row)]
        return kept_word(self.diagrams, word_by(self.diagrams, row, knots))

    def cell_of(self, cells, place, width):
        """The word of the cell at a place, 0 beyond the last one."""
        if isinstance(place, int):
            return cell_at(cells, place)
        return cell_word(self.diagrams, [knots_of(self.diagrams, cell, width) for cell in cells], place)

    def written(self, cells, memory):
        """The cells of a memory behind the beat."""
        stored = [knots_of(self.diagrams, cell, memory[1]) for cell in cells]
        place, value, on = [self.knots_at(row) for row in memory[3:]]
        return written_words(self.diagrams, stored, place, value, on[0])

    def knots_at(self, number):
        """The word of a row, knot by knot."""
        return knots_of(self.diagrams, self.words[number], self.net[1][number][1])


def kept_word(diagrams, word):
    """A word as its number, if all of its knots tell the same of all words."""
    if isinstance(word, int):
        return word
    number = 0
    for at, knot in enumerate(word):
        if knot == diagrams.whole:
            number += 1 << at
        elif knot != 0:
            return list(word)
    return number


def knots_of(diagrams, word, width):
    """A word that is kept, knot by knot."""
    if isinstance(word, int):
        return number_word(diagrams, word, width)
    return list(word)


def number_word(diagrams, number, width):
    return [diagrams.whole if (number >> at) & 1 == 1 else 0 for at in range(width)]


def word_by(diagrams, row, asked):
    """The word of a row by the words that it asks, knot by knot."""
    kind, width = row[0], row[1]
    if kind == "not":
        return turned_word(diagrams, asked[0])
    if kind == "two":
        return two_word(diagrams, row[2], asked[0], asked[1])
    if kind == "pick":
        return chosen_word(diagrams, asked[0][0], asked[1], asked[2])
    if kind == "cut":
        return asked[0][row[3]:row[3] + width]
    if kind == "join":
        return asked[1] + asked[0]
    return asked[0] + [0] * (width - len(asked[0]))


def turned_word(diagrams, word):
    return [diagrams.turned(knot) for knot in word]


def chosen_word(diagrams, test, one, other):
    """The one word where a knot tells 1, else the other one."""
    return [diagrams.chosen(test, knot, beside) for knot, beside in zip(one, other)]


def two_word(diagrams, sign, one, other):
    """What a sign makes of two words of one width."""
    if sign == "&":
        return [diagrams.both(knot, beside) for knot, beside in zip(one, other)]
    if sign == "|":
        return [diagrams.either(knot, beside) for knot, beside in zip(one, other)]
    if sign == "^":
        return [diagrams.unlike(knot, beside) for knot, beside in zip(one, other)]
    if sign == "+":
        return sum_word(diagrams, one, other, 0)
    if sign == "-":
        return sum_word(diagrams, one, turned_word(diagrams, other), diagrams.whole)
    if sign == "==":
        return [alike_knot(diagrams, one, other)]
    return [less_knot(diagrams, one, other)]


def sum_word(diagrams, one, other, carry):
    """The sum of two words and of a knot, without what goes beyond their width."""
    bits = []
    for knot, beside in zip(one, other):
        half = diagrams.unlike(knot, beside)
        bits.append(diagrams.unlike(half, carry))
        carry = diagrams.chosen(half, carry, knot)
    return bits


def alike_knot(diagrams, one, other):
    """What tells 1 where two words are the same."""
    told = diagrams.whole
    for knot, beside in zip(one, other):
        told = diagrams.both(told, diagrams.turned(diagrams.unlike(knot, beside)))
    return told


def less_knot(diagrams, one, other):
    """What tells 1 where the one word is less than the other one."""
    told = 0
    for knot, beside in zip(one, other):
        # Higher bits that are unlike outdo all that lower ones told.
        told = diagrams.chosen(diagrams.unlike(knot, beside), beside, told)
    return told


def place_knots(diagrams, place, many):
    """For each number below many what tells 1 where a word is this number; none for numbers that it never is."""
    knots = [diagrams.whole]
    for at in reversed(range(len(place))):
        sides = (diagrams.turned(place[at]), place[at])
        knots = [diagrams.both(knot, side) for knot in knots for side in sides]
        # Of the bits from here on only those that numbers below many begin with.
        del knots[((many - 1) >> at) + 1:]
    return knots


def cell_word(diagrams, cells, place):
    """The word of the cell at a place, 0 beyond the last one."""
    word = [0] * len(cells[0])
    for cell, is_here in zip(cells, place_knots(diagrams, place, len(cells))):
        for at, knot in enumerate(cell):
            if knot != 0:
                word[at] = diagrams.either(word[at], diagrams.both(is_here, knot))
    return word


def written_words(diagrams, cells, place, value, on):
    """The cells behind a beat that writes a value at a place where a knot tells 1."""
    words = list(cells)
    for at, is_here in enumerate(place_knots(diagrams, place, len(cells))):
        words[at] = chosen_word(diagrams, diagrams.both(on, is_here), value, cells[at])
    return words
