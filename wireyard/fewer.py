"""Nets made fewer: rows that tell what another row tells go, and so do those that nothing reads."""

from wireyard.bits import top_of
from wireyard.nets import asked_by, led_to, need_net, worth_of
from wireyard.reach import rows_read

# Signs whose sides may stand the other way round.
TURNING = ("&", "|", "^", "+", "==")


class Fewer:
    """Rows made fewer so far, no two alike; a row that is put in asks these ones."""

    def __init__(self, tables):
        self.tables = tables
        self.rows = []
        self.places = {}

    def put(self, row):
        """The place of a row that stands here as it is."""
        if row not in self.places:
            self.places[row] = len(self.rows)
            self.rows.append(row)
        return self.places[row]

    def put_number(self, width, word):
        return self.put(("number", width, word))

    def kind_at(self, at):
        return self.rows[at][0]

    def is_number(self, at, word):
        """Whether the row at a place is this number."""
        return self.kind_at(at) == "number" and self.rows[at][2] == word

    def place_of(self, row):
        """The place of a row that tells what this one tells."""
        if self.asks_numbers(row):
            words = {at: self.rows[at][2] for at in asked_by(row)}
            return self.put_number(row[1], worth_of(row, words, self.rows, self.tables))
        kind = row[0]
        if kind == "not" and self.kind_at(row[2]) == "not":
            return self.rows[row[2]][2]
        if kind == "two":
            return self.place_of_two(row)
        if kind == "pick":
            return self.place_of_pick(row)
        if kind == "cut":
            return self.place_of_cut(row)
        if kind == "fill":
            return self.place_of_fill(row)
        return self.put(row)

    def asks_numbers(self, row):
        """Whether a row asks numbers, and nothing else."""
        asked = asked_by(row)
        if not asked or row[0] == "memory":
            return False
        return all([self.kind_at(at) == "number" for at in asked])

    def place_of_two(self, row):
        _, width, sign, one, other = row
        if one == other and sign != "+":
            return one if sign in ("&", "|") else self.put_number(width, 1 if sign == "==" else 0)
        for side, beside in ((one, other), (other, one)):
            if sign in TURNING:
                place = self.place_beside(sign, side, beside)
                if place is not None:
                    return place
        if sign == "-" and self.is_number(other, 0):
            return one
        if sign == "<" and (self.is_number(other, 0) or self.is_number(one, top_of(self.rows[one][1]))):
            return self.put_number(1, 0)
        if sign in TURNING and one > other:
            one, other = other, one
        return self.put(("two", width, sign, one, other))

    def place_beside(self, sign, side, beside):
        """What & | ^ + come to where a side is 0, or & | where it is the greatest word; None of all else."""
        if self.is_number(side, 0) and sign != "==":
            return side if sign == "&" else beside
        if self.is_number(side, top_of(self.rows[side][1])) and sign in ("&", "|"):
            return side if sign == "|" else beside
        return None

    def place_of_pick(self, row):
        _, width, test, one, other = row
        if self.kind_at(test) == "number":
            return one if self.is_number(test, 1) else other
        if one == other:
            return one
        if self.kind_at(test) == "not":
            return self.put(("pick", width, self.rows[test][2], other, one))
        return self.put(row)

    def place_of_cut(self, row):
        _, width, at, low = row
        while self.kind_at(at) in ("cut", "join"):
            if self.kind_at(at) == "cut":
                _, _, at, more = self.rows[at]
                low += more
                continue
            _, _, high_side, low_side = self.rows[at]
            border = self.rows[low_side][1]
            if low < border < low + width:
                break
            at = high_side if low >= border else low_side
            low = low - border if low >= border else low
        if self.rows[at][1] == width:
            return at
        if self.kind_at(at) == "number":
            return self.place_of(("cut", width, at, low))
        return self.put(("cut", width, at, low))

    def place_of_fill(self, row):
        _, width, at = row
        if self.rows[at][1] == width:
            return at
        if self.kind_at(at) == "fill":
            at = self.rows[at][2]
        return self.put(("fill", width, at))


def fewer(net):
    """The net that tells the same with no row that could be spared."""
    need_net(net)
    made = Fewer(net[4])
    led = []
    for row in net[1]:
        led.append(made.place_of(led_to(row, [led[at] for at in asked_by(row)])))
    return _without_unread(_led_net(net, made.rows, led))


def _without_unread(net):
    led = {}
    left = []
    for at, read in enumerate(rows_read(net)):
        if read:
            row = net[1][at]
            led[at] = len(left)
            left.append(led_to(row, [led[number] for number in asked_by(row)]))
    return _led_net(net, left, led)


def _led_net(net, rows, led):
    """A net with other rows, led being where the rows that are led to stand now."""
    ins, _, outs, rests, tables, memories = net
    outs = tuple([(name, led[row]) for name, row in outs])
    rests = tuple([(name, width, first, led[row]) for name, width, first, row in rests])
    memories = tuple([memory[:3] + tuple([led[row] for row in memory[3:]]) for memory in memories])
    return (ins, tuple(rows), outs, rests, tables, memories)
