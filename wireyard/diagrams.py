"""Diagrams: what tells 0 or 1 of words, as knots that choose by one bit after the other."""

from wireyard.errors import TooMany

# Stands where a knot has a bit, for 0 and 1, which choose by none; it is behind all bits.
NO_BIT = 1000000


class Diagrams:
    """Knots by their numbers: each with its bit, with the knots for this bit being 0 and 1, and with its way.

    A knot is made behind those that it chooses between, and only where none is like it.
    """

    def __init__(self, most=2000):
        self.most = most
        # The knot that tells 1 of all words, by the name that it has where columns stand in place of knots.
        self.whole = 1
        self.bits = [NO_BIT, NO_BIT]
        self.lows = [0, 1]
        self.highs = [0, 1]
        self.ways = [None, 0]
        self.places = {}
        self.known = {}

    def how_many(self):
        """How many knots there are beside 0 and 1."""
        return len(self.bits) - 2

    def bit(self, place):
        """The knot that tells a bit of the word."""
        return self._knot(place, 0, 1)

    def choice(self, bit, low, high):
        """The knot that tells what low tells where the bit is 0, else what high tells."""
        return self._whole("choice", (bit, low, high))

    def both(self, one, other):
        return self._whole("chosen", (min(one, other), max(one, other), 0))

    def either(self, one, other):
        return self._whole("chosen", (min(one, other), 1, max(one, other)))

    def unlike(self, one, other):
        return self._whole("unlike", (min(one, other), max(one, other)))

    def turned(self, knot):
        return self._whole("unlike", (min(knot, 1), max(knot, 1)))

    def chosen(self, test, one, other):
        """The knot that tells what one tells where the test tells 1, else what other tells."""
        return self._whole("chosen", (test, one, other))

    def told(self, knot, word):
        """What a knot tells of a word, 0 or 1."""
        return self.beyond(knot, NO_BIT, word)

    def beyond(self, knot, size, word):
        """The knot that is left where the first bits, so many, are those of a word."""
        while self.bits[knot] < size:
            knot = self._side(knot, self.bits[knot], (word >> self.bits[knot]) & 1)
        return knot

    def way(self, knot):
        """The least word of which a knot tells 1, None where there is none."""
        return self.ways[knot]

    def _side(self, knot, bit, worth):
        """The knot that is left of one where a bit is 0 or 1, no bit that it chooses by being ahead of this one."""
        if self.bits[knot] != bit:
            return knot
        return self.highs[knot] if worth == 1 else self.lows[knot]

    def _knot(self, bit, low, high):
        """The knot that chooses by a bit between two knots that choose by later ones."""
        if low == high:
            return low
        if (bit, low, high) not in self.places:
            if self.how_many() >= self.most:
                raise TooMany(f"more than {self.most} knots")
            self.places[(bit, low, high)] = len(self.bits)
            self.bits.append(bit)
            self.lows.append(low)
            self.highs.append(high)
            self.ways.append(_way_by(bit, self.ways[low], self.ways[high]))
        return self.places[(bit, low, high)]

    def _whole(self, kind, knots):
        """The knot that is made of others; where it can't be, those that were made on the way go again."""
        many = len(self.bits)
        try:
            return self._made(kind, knots)
        except TooMany:
            self._shrink_to(many)
            raise

    def _made(self, kind, knots):
        if kind == "choice":
            return self._choice(knots[0], knots[1], knots[2])
        plain = _known_by_rule(kind, knots)
        if plain is not None:
            return plain
        if (kind, knots) not in self.known:
            bit = min([self.bits[knot] for knot in knots])
            low = self._made(kind, tuple([self._side(knot, bit, 0) for knot in knots]))
            high = self._made(kind, tuple([self._side(knot, bit, 1) for knot in knots]))
            self.known[(kind, knots)] = self._knot(bit, low, high)
        return self.known[(kind, knots)]

    def _choice(self, bit, low, high):
        """The knot that chooses by a bit between any two knots, those that choose by it or by earlier ones too."""
        first = min(bit, self.bits[low], self.bits[high])
        lows = (self._side(low, first, 0), self._side(high, first, 0))
        highs = (self._side(low, first, 1), self._side(high, first, 1))
        if first == bit:
            return self._knot(bit, lows[0], highs[1])
        return self._knot(first, self._choice(bit, lows[0], lows[1]), self._choice(bit, highs[0], highs[1]))

    def _shrink_to(self, many):
        for knot in range(many, len(self.bits)):
            del self.places[(self.bits[knot], self.lows[knot], self.highs[knot])]
        del self.bits[many:]
        del self.lows[many:]
        del self.highs[many:]
        del self.ways[many:]
        # What is known may lead to knots that have gone.
        self.known = {}


def _way_by(bit, low_way, high_way):
    """The least word of two that are told with a bit being 0 and 1, at least one of which is there."""
    if high_way is None:
        return low_way
    if low_way is None:
        return high_way + (1 << bit)
    return min(low_way, high_way + (1 << bit))


def _known_by_rule(kind, knots):
    """The knot made of others where this is plain without a look at their bits, None where it isn't."""
    if kind == "unlike":
        one, other = knots
        if one == other:
            return 0
        if other == 0:
            return one
        return other if one == 0 else None
    test, one, other = knots
    if test == 1 or one == other:
        return one
    if test == 0:
        return other
    if other == 0 and one in (1, test):
        return test
    return other if one == 1 and test == other else None
