"""Going through a yard by changes: in each beat only names that may be other are reckoned."""

from wireyard.doors import need_doors
from wireyard.heaps import Heap
from wireyard.scopes import wired_of
from wireyard.states import State
from wireyard.steps import go_on_by, order_of, words_out


class Stirring:
    """The places of names that are to be reckoned in a beat: each is taken once, the least first."""

    def __init__(self):
        self.heap = Heap()
        self.known = {}

    def stir(self, places):
        for place in places:
            if place not in self.known:
                self.known[place] = True
                self.heap.put((place,))

    def is_left(self):
        return self.heap.size() > 0

    def take(self):
        return self.heap.take()[0]

    def many(self):
        return len(self.known)


class Swift:
    """A yard that is let by, with its rests and memories, and all that was seen in the beat ahead, None ahead of it."""

    def __init__(self, yard):
        self.wired = wired_of(yard)
        self.order = order_of(self.wired)
        self.led = _led_by(self.order)
        self.state = State(self.wired.resting, self.wired.memories)
        self.last = None
        self.reckoned = 0

    def beat(self, doors):
        """Goes on by a beat; tells the words of the doors out."""
        need_doors(doors, self.wired.ins)
        given = self.state.seen()
        given.update(doors)
        stirring = self._stirred_by(given)
        self._reckon(given, stirring)
        go_on_by(self.state, self.wired, self.last)
        return words_out(self.wired, self.last)

    def rests(self):
        return self.state.rests()

    def cells(self):
        return self.state.cells()

    def back(self):
        self.state.back()
        self.last = None
        self.reckoned = 0

    def stand(self, rests, cells):
        """Goes on from the state that these tell; as behind back, there is no beat ahead then."""
        self.back()
        self.state.stand(rests, cells)

    def stirred(self):
        """How many names were reckoned in the last beat."""
        return self.reckoned

    def _stirred_by(self, given):
        """The names that ask what is other than in the beat ahead; all where there was none."""
        stirring = Stirring()
        if self.last is None:
            stirring.stir(list(range(len(self.order))))
            return stirring
        for name in given:
            if given[name] != self.last[name]:
                stirring.stir(self.led.get(name, []))
        return stirring

    def _reckon(self, given, stirring):
        """Brings all that is seen to this beat."""
        seen = dict(self.last or {})
        seen.update(given)
        # A name stands behind all that it asks: the least place asks nothing that is still to be reckoned.
        while stirring.is_left():
            name, piece = self.order[stirring.take()]
            word = piece.worth(seen)
            if word != seen.get(name):
                seen[name] = word
                stirring.stir(self.led.get(name, []))
        self.last = seen
        self.reckoned = stirring.many()


def _led_by(order):
    """The places in an order of the names that ask a name or read a memory, by that name."""
    led = {}
    for place, (_, piece) in enumerate(order):
        for name in piece.asks() + piece.reads():
            led.setdefault(name, []).append(place)
    return led
