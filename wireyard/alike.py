"""Two nets beside one another: shown alike by all pairs of their states, or told apart by beats."""

from wireyard.bits import cut_word
from wireyard.choices import Told, number_word
from wireyard.diagrams import Diagrams
from wireyard.errors import BadNet, TooMany
from wireyard.nets import need_net

MOST_DOOR_BITS = 12
MOST_STATE_BITS = 24
MOST_PAIRS = 300
# Far more than are promised, so that rows which nobody is told of may be many-sided.
MOST_KNOTS = 50000


class Pairing:
    """The pairs of states found so far, each with the pair and the doors' word by which it was found first."""

    def __init__(self, net, other):
        self.nets = (net, other)
        self.diagrams = Diagrams(MOST_KNOTS)
        self.doors = self.door_words()
        self.found = []
        self.ways = {}
        self.put((first_state(net), first_state(other)), None)

    def put(self, pair, way):
        if pair not in self.ways:
            if len(self.found) == MOST_PAIRS:
                raise TooMany(f"more than {MOST_PAIRS} pairs of states")
            self.found.append(pair)
            self.ways[pair] = way

    def outcome(self):
        """Goes through the pairs, those of fewer beats first, until one parts or none is left."""
        at = 0
        while at < len(self.found):
            pair = self.found[at]
            one, other = self.told_at(pair)
            word = self.parting(one, other)
            if word is not None:
                return ("apart", self.beats_to(pair, word))
            self.go_on(pair, one.after, other.after)
            at += 1
        return ("alike", tuple(self.found))

    def told_at(self, pair):
        """Both nets, told from a pair of states on."""
        firsts = [state_words(net, state) for net, state in zip(self.nets, pair)]
        return [Told(self.diagrams, net, first, self.doors) for net, first in zip(self.nets, firsts)]

    def door_words(self):
        """The doors' words: all their bits are bits of one word, in order."""
        words = []
        bit = 0
        for _, width in self.nets[0][0]:
            words.append([self.diagrams.bit(bit + at) for at in range(width)])
            bit += width
        return words

    def parting(self, one, other):
        """A word of the doors by which the two tell unlike, None where there is none."""
        for word, beside in zip(one.outs, other.outs):
            for knot, other_knot in zip(word, beside):
                if knot != other_knot:
                    return self.diagrams.way(self.diagrams.unlike(knot, other_knot))
        return None

    def go_on(self, pair, after, other_after):
        """Finds all pairs that one beat leads to."""
        net, other = self.nets
        many = sum(state_widths(net))
        told = self.diagrams.told_together([knot for word in after + other_after for knot in word])
        for bits in told:
            states = (state_by(net, bits[:many]), state_by(other, bits[many:]))
            self.put(states, (pair, told[bits]))

    def beats_to(self, pair, word):
        """The beats that lead to a pair, and behind them one by a word of the doors."""
        beats = [self.beat_by(word)]
        while self.ways[pair] is not None:
            pair, word = self.ways[pair]
            beats.append(self.beat_by(word))
        return tuple(reversed(beats))

    def beat_by(self, word):
        doors = []
        for name, width in self.nets[0][0]:
            doors.append((name, cut_word(word, 0, width)))
            word >>= width
        return tuple(doors)


def alike(net, other):
    """Whether two nets tell the same at their doors out, whatever comes at those in."""
    need_net(net)
    need_net(other)
    if doors_of(net) != doors_of(other):
        raise BadNet("the doors of the nets are unlike")
    if sum([width for _, width in net[0]]) > MOST_DOOR_BITS:
        raise TooMany(f"doors in of more than {MOST_DOOR_BITS} bits")
    if sum(state_widths(net)) + sum(state_widths(other)) > MOST_STATE_BITS:
        raise TooMany(f"rests and cells of more than {MOST_STATE_BITS} bits")
    return Pairing(net, other).outcome()


def doors_of(net):
    """The doors in and out with their widths."""
    ins, rows, outs, _, _, _ = net
    return (ins, tuple([(name, rows[row][1]) for name, row in outs]))


def state_widths(net):
    """The widths of all rests, then of all cells."""
    widths = [rest[1] for rest in net[3]]
    for _, width, size, _, _, _ in net[5]:
        widths.extend([width] * size)
    return widths


def first_state(net):
    """A state is a tuple of the rests' words and of tuples of the memories' words."""
    return (tuple([rest[2] for rest in net[3]]), tuple([(0,) * memory[2] for memory in net[5]]))


def state_words(net, state):
    """A state by words of knots."""
    rests, cells = state
    words = [number_word(word, rest[1]) for word, rest in zip(rests, net[3])]
    stores = [[number_word(cell, memory[1]) for cell in store] for store, memory in zip(cells, net[5])]
    return (words, stores)


def state_by(net, bits):
    """The state whose bits are told, the rests' and then the cells', each word's lowest one first."""
    words = []
    at = 0
    for width in state_widths(net):
        words.append(sum([bits[at + low] << low for low in range(width)]))
        at += width
    cells = []
    start = len(net[3])
    for memory in net[5]:
        cells.append(tuple(words[start:start + memory[2]]))
        start += memory[2]
    return (tuple(words[:len(net[3])]), tuple(cells))
