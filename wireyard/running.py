"""Going through a net beat by beat: in each beat all rows are reckoned, from the first one on."""

from wireyard.doors import need_doors
from wireyard.nets import cell_at, need_net, worth_of
from wireyard.states import State


class Running:
    """A net with its rests and memories, as they stand."""

    def __init__(self, net):
        need_net(net)
        self.ins, self.rows, self.outs, self.resting, self.tables, self.memories = net
        self.state = State(self.resting, self.memories)

    def beat(self, doors):
        """Goes on by a beat; tells the words of the doors out."""
        need_doors(doors, self.ins)
        words = self._words([doors[name] for name, _ in self.ins])
        rests = [words[rest[3]] for rest in self.resting]
        writings = [tuple([words[row] for row in memory[3:]]) for memory in self.memories]
        self.state.go_on(rests, writings)
        return {name: words[row] for name, row in self.outs}

    def rests(self):
        return self.state.rests()

    def cells(self):
        return self.state.cells()

    def back(self):
        self.state.back()

    def stand(self, rests, cells):
        """Goes on from the state that these tell."""
        self.state.stand(rests, cells)

    def _words(self, given):
        """The words of all rows, given being those of the doors in."""
        words = []
        for row in self.rows:
            kind, k = row[0], row[2]
            if kind == "in":
                words.append(given[k])
            elif kind == "rest":
                words.append(self.state.words[k])
            elif kind == "number":
                words.append(k)
            elif kind == "memory":
                words.append(cell_at(self.state.stores[k], words[row[3]]))
            else:
                words.append(worth_of(row, words, self.rows, self.tables))
        return words
