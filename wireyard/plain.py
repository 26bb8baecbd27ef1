"""Going through a yard beat by beat, plainly: in each beat all names are reckoned."""

from wireyard.doors import need_doors
from wireyard.looking import looked
from wireyard.scopes import wired_of
from wireyard.states import State
from wireyard.steps import go_on_by, order_of, words_out


class Plain:
    """A yard with its rests and memories, as they stand."""

    def __init__(self, yard):
        looked(yard)
        self.wired = wired_of(yard)
        self.order = order_of(self.wired)
        self.state = State(self.wired.resting, self.wired.memories)

    def beat(self, doors):
        """Goes on by a beat; tells the words of the doors out."""
        need_doors(doors, self.wired.ins)
        seen = self.state.seen()
        seen.update(doors)
        for name, piece in self.order:
            seen[name] = piece.worth(seen)
        go_on_by(self.state, self.wired, seen)
        return words_out(self.wired, seen)

    def rests(self):
        return self.state.rests()

    def cells(self):
        return self.state.cells()

    def back(self):
        self.state.back()

    def stand(self, rests, cells):
        """Goes on from the state that these tell."""
        self.state.stand(rests, cells)
