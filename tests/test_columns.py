import random
import unittest

from netmaking import first_state, next_of, small_nets
from wireyard.choices import Told
from wireyard.columns import Columns


def word_at(place, places):
    """The word that stands at a place: its first bit is the place's highest one."""
    return sum((place >> (places - 1 - bit) & 1) << bit for bit in range(places))


def telling(column, places):
    """What a column tells of each word, in the order of places."""
    return [column >> place & 1 for place in range(2 ** places)]


class TestColumns(unittest.TestCase):
    def test_bits(self):
        for places in range(12):
            columns = Columns(places)
            self.assertEqual(telling(columns.whole, places), [1] * 2 ** places)
            for bit in range(places):
                wanted = [word_at(place, places) >> bit & 1 for place in range(2 ** places)]
                self.assertEqual(telling(columns.bit(bit), places), wanted)

    def test_words_in_order(self):
        columns = Columns(2)
        # Of two bits: 0, then 2, whose first bit is 0 as well, then 1 and 3.
        self.assertEqual(telling(columns.bit(0), 2), [0, 0, 1, 1])
        self.assertEqual(telling(columns.bit(1), 2), [0, 1, 0, 1])

    def test_no_column_has_more_than_900_figures(self):
        self.assertLess(len(str(Columns(11).whole)), 900)

    def test_columns_made_of_others(self):
        choice = random.Random(91)
        for places in (0, 1, 3, 6):
            columns = Columns(places)
            for _ in range(60):
                one, other, test = [choice.randrange(columns.whole + 1) for _ in range(3)]
                sides = list(zip(*[telling(column, places) for column in (one, other, test)]))
                self.assertEqual(telling(columns.both(one, other), places), [a & b for a, b, _ in sides])
                self.assertEqual(telling(columns.either(one, other), places), [a | b for a, b, _ in sides])
                self.assertEqual(telling(columns.unlike(one, other), places), [a ^ b for a, b, _ in sides])
                self.assertEqual(telling(columns.turned(one), places), [1 - a for a, _, _ in sides])
                self.assertEqual(telling(columns.chosen(test, one, other), places), [a if c else b for a, b, c in sides])

    def test_first(self):
        columns = Columns(3)
        for column in range(1, 256):
            self.assertEqual(columns.first(column), telling(column, 3).index(1))

    def test_parted(self):
        choice = random.Random(92)
        for places in (0, 1, 2, 4):
            columns = Columns(places)
            for _ in range(60):
                given = [choice.randrange(columns.whole + 1) for _ in range(choice.randrange(6))]
                wanted = {}
                for place in range(2 ** places):
                    wanted.setdefault(sum((column >> place & 1) << k for k, column in enumerate(given)), place)
                self.assertEqual(columns.parted(given), [(place, told) for told, place in wanted.items()])


class TestToldByColumns(unittest.TestCase):
    """A net told by columns, from one state after the other on, is held against its words."""

    def holds(self, net, told, state, places):
        for place in range(0, 2 ** places, 3 if places > 6 else 1):
            doors, left = {}, word_at(place, places)
            for name, width in net[0]:
                doors[name] = left % 2 ** width
                left //= 2 ** width
            outs, (rests, stores) = next_of(net, state, doors)
            words = [sum((column >> place & 1) << k for k, column in enumerate(word)) for word in told.outs + told.after]
            self.assertEqual(words, [*outs.values(), *rests, *[cell for store in stores for cell in store]])

    def test_told_anew(self):
        choice = random.Random(93)
        for net in small_nets(150, 94, 24):
            places = sum(width for _, width in net[0])
            columns = Columns(places)
            bits = [columns.bit(place) for place in range(places)]
            doors = []
            for _, width in net[0]:
                doors.append(bits[:width])
                del bits[:width]
            state = first_state(net)
            told = Told(columns, net, state, doors)
            self.holds(net, told, state, places)
            for _ in range(6):
                rests = [choice.choice((word, choice.randrange(2 ** rest[1]))) for word, rest in zip(state[0], net[3])]
                stores = [[choice.choice((word, choice.randrange(2 ** width))) for word in store]
                          for store, (_, width, *_) in zip(state[1], net[5])]
                state = (tuple(rests), tuple(map(tuple, stores)))
                told.tell(state)
                self.holds(net, told, state, places)
                self.assertEqual(vars(Told(columns, net, state, doors)), vars(told))

    def test_what_is_told_and_handed_in_may_be_changed(self):
        columns = Columns(2)
        net = ((("a", 2),), (("in", 2, 0), ("rest", 2, 0), ("two", 2, "+", 0, 1)), (("s", 0), ("t", 2)), (("r", 2, 1, 1),), (), ())
        doors, first = [[columns.bit(0), columns.bit(1)]], ([[0, columns.whole]], [])
        told = Told(columns, net, first, doors)
        wanted = [[list(word) for word in words] for words in (told.outs, told.after)]
        doors[0][0] = first[0][0][1] = told.outs[0][0] = told.after[0][0] = 77
        told.tell(([2], []))
        self.assertEqual([told.outs, told.after], wanted)


if __name__ == "__main__":
    unittest.main()
