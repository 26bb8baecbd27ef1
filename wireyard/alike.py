"""Two nets beside one another: shown alike by all pairs of their states, or told apart by beats."""

from wireyard.bits import cut_word
from wireyard.choices import Told, number_word
from wireyard.columns import Columns
from wireyard.errors import BadNet, TooMany
from wireyard.nets import need_net

MOST_DOOR_BITS = 12
MOST_STATE_BITS = 24
MOST_PAIRS = 300
# A column tells of all words of so many bits at the most, so that it is a number of fewer than 900 figures.
MOST_COLUMN_BITS = 11


class Pairing:
    """The pairs of states found so far, each with the pair and the doors' word by which it was found first.

    All bits of the doors are the bits of one word, which is meant by its place in the order of Columns. It may have
    more bits than columns tell of: then its first bits are numbers, others in each going, and its last ones columns.
    """

    def __init__(self, net, other):
        self.nets = (net, other)
        self.bits = door_bits(net)
        self.columns = Columns(min(self.bits, MOST_COLUMN_BITS))
        pair = (first_state(net), first_state(other))
        self.goings = [self.going_from(start, pair) for start in range(1 << (self.bits - self.columns.places))]
        self.found = []
        self.ways = {}
        self.put(pair, None)

    def going_from(self, start, pair):
        """Both nets told of all words whose first bits are those of a number, its highest one first."""
        places = self.columns.places
        bits = number_word(self.columns, start, self.bits - places)[::-1]
        bits.extend([self.columns.bit(place) for place in range(places)])
        doors = []
        for _, width in self.nets[0][0]:
            doors.append(bits[:width])
            del bits[:width]
        return [Told(self.columns, net, state, doors) for net, state in zip(self.nets, pair)]

    def put(self, pair, way):
        if pair not in self.ways:
            if len(self.found) == MOST_PAIRS:
                raise TooMany(f"more than {MOST_PAIRS} pairs of states")
            self.found.append(pair)
            self.ways[pair] = way

    def outcome(self):
        """Goes through the pairs, those of fewer beats first, until one parts or none is left."""
        at = 0
        while at < len(self.found):
            pair = self.found[at]
            self.tell(pair)
            place = self.parting()
            if place is not None:
                return ("apart", self.beats_to(pair, place))
            self.go_on(pair)
            at += 1
        return ("alike", tuple(self.found))

    def tell(self, pair):
        """Tells both nets from a pair of states on."""
        for going in self.goings:
            for told, state in zip(going, pair):
                told.tell(state)

    def place_of(self, start, at):
        """The place of a word by its first bits, a number, and by the place that its last ones have in columns."""
        return (start << self.columns.places) + at

    def parting(self):
        """The place of the first word of the doors by which the two tell unlike, None where there is none."""
        for start, (one, other) in enumerate(self.goings):
            unlike = 0
            for word, beside in zip(one.outs, other.outs):
                for column, other_column in zip(word, beside):
                    unlike = self.columns.either(unlike, self.columns.unlike(column, other_column))
            if unlike != 0:
                return self.place_of(start, self.columns.first(unlike))
        return None

    def go_on(self, pair):
        """Finds all pairs that one beat leads to."""
        net, other = self.nets
        many = sum(state_widths(net))
        for start, (one, beside) in enumerate(self.goings):
            for at, told in self.columns.parted([column for word in one.after + beside.after for column in word]):
                states = (state_by(net, told), state_by(other, told >> many))
                self.put(states, (pair, self.place_of(start, at)))

    def beats_to(self, pair, place):
        """The beats that lead to a pair, and behind them one by the doors' word at a place."""
        beats = [self.beat_by(place)]
        while self.ways[pair] is not None:
            pair, place = self.ways[pair]
            beats.append(self.beat_by(place))
        return tuple(reversed(beats))

    def beat_by(self, place):
        """The doors' words that stand at a place: their first bit is the place's highest one."""
        doors = []
        left = self.bits
        for name, width in self.nets[0][0]:
            left -= width
            bits = cut_word(place, left, width)
            doors.append((name, sum([cut_word(bits, width - 1 - at, 1) << at for at in range(width)])))
        return tuple(doors)


def alike(net, other):
    """Whether two nets tell the same at their doors out, whatever comes at those in."""
    need_net(net)
    need_net(other)
    if doors_of(net) != doors_of(other):
        raise BadNet("the doors of the nets are unlike")
    if door_bits(net) > MOST_DOOR_BITS:
        raise TooMany(f"doors in of more than {MOST_DOOR_BITS} bits")
    if sum(state_widths(net)) + sum(state_widths(other)) > MOST_STATE_BITS:
        raise TooMany(f"rests and cells of more than {MOST_STATE_BITS} bits")
    return Pairing(net, other).outcome()


def doors_of(net):
    """The doors in and out with their widths."""
    ins, rows, outs, _, _, _ = net
    return (ins, tuple([(name, rows[row][1]) for name, row in outs]))


def door_bits(net):
    """How many bits the doors in have."""
    return sum([width for _, width in net[0]])


def state_widths(net):
    """The widths of all rests, then of all cells."""
    widths = [rest[1] for rest in net[3]]
    for _, width, size, _, _, _ in net[5]:
        widths.extend([width] * size)
    return widths


def first_state(net):
    """A state is a tuple of the rests' words and of tuples of the memories' words."""
    return (tuple([rest[2] for rest in net[3]]), tuple([(0,) * memory[2] for memory in net[5]]))


def state_by(net, told):
    """The state whose bits are a number's lowest ones, the first rest's the lowest of all."""
    words = []
    for width in state_widths(net):
        words.append(cut_word(told, 0, width))
        told >>= width
    cells = []
    start = len(net[3])
    for memory in net[5]:
        cells.append(tuple(words[start:start + memory[2]]))
        start += memory[2]
    return (tuple(words[:len(net[3])]), tuple(cells))
