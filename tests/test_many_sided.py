"""Nets whose rows are far more many-sided than what they tell at their doors out (91, 92)."""

import random
import unittest
import unittest.mock

from netmaking import NetMaker, all_words, first_state, next_of, small_nets, words_of
from test_alike import Alikes
from wireyard.alike import alike
from wireyard.errors import TooMany
from wireyard.fewer import fewer
from wireyard.nets import is_net

DOOR = (("a", 12),)
STATELESS = ("alike", ((((), ()), ((), ())),))


class Rows:
    """Rows of a net, put one behind the other; sides are turned round where this tells the same."""

    def __init__(self, turned=False):
        self.turned = turned
        self.rows = []

    def put(self, *row):
        self.rows.append(row)
        return len(self.rows) - 1

    def two(self, sign, one, other):
        width = 1 if sign in ("==", "<") else self.rows[one][1]
        return self.put("two", width, sign, *((other, one) if self.turned and sign not in ("-", "<") else (one, other)))

    def number(self, width, word):
        return self.put("number", width, word)

    def bit(self, at, place):
        return self.put("cut", 1, at, place)

    def rolled(self, at, by):
        """A row that tells another one's word, its highest bits, so many, put below all others."""
        width = self.rows[at][1]
        return self.put("join", width, self.put("cut", width - by, at, 0), self.put("cut", by, at, width - by))

    def mixed(self, at, rounds):
        """The word of a row mixed so that no two words of it become one, by all kinds of rows."""
        for k in range(rounds):
            by = (7, 13, 17, 5, 29)[k % 5]
            width = self.rows[at][1]
            # What is added, or picked by, are bits that stay, which tell what was added.
            low = self.put("fill", width, self.put("cut", by, at, 0))
            higher = self.put("join", width, self.put("cut", width - by, low, 0), self.number(by, 0))
            at = self.two("+", at, higher)
            low = self.bit(at, 0)
            flipped = self.two("^", at, self.number(width, 0x9E3779B97F4A7C14 % 2 ** width))
            at = self.put("pick", width, low, flipped, self.put("not", width, self.put("not", width, at)))
            at = self.rolled(at, by)
        return at

    def product(self, one, other):
        """The product of two rows of one width, twice as wide."""
        width = self.rows[one][1]
        nought = self.number(2 * width, 0)
        total = nought
        wide = self.put("fill", 2 * width, one)
        for k in range(width):
            shifted = wide if k == 0 else self.rolled(wide, k)
            total = self.two("+", total, self.put("pick", 2 * width, self.bit(other, k), shifted, nought))
        return total

    def net(self, ins, *outs, rests=()):
        return (ins, tuple(self.rows), tuple((f"s{k}", row) for k, row in enumerate(outs)), rests, (), ())


def counting(rows, width=8):
    """A rest that counts on, and what is wanted of it in a net."""
    count = rows.put("rest", width, 0)
    return count, ("c", width, 0, rows.two("+", count, rows.number(width, 1)))


def mixing(rounds, wanted=None, turned=False, counts=False):
    """Tells whether the door's word, and a count, mixed are a word; or what is never so."""
    rows = Rows(turned)
    start = rows.put("fill", 64, rows.put("in", 12, 0))
    rests = ()
    if counts:
        count, rest = counting(rows)
        start = rows.put("join", 64, rows.put("fill", 52, count), rows.put("cut", 12, start, 0))
        rests = (rest,)
    mixed = rows.mixed(start, rounds)
    if wanted is None:
        told = rows.two("<", rows.two("|", mixed, start), rows.two("&", mixed, start))
    else:
        told = rows.two("==", mixed, rows.number(64, wanted))
    return rows.net(DOOR, told, rests=rests)


def mixed_word(rounds, word, count=0):
    """What the mixed rows come to, by words alone."""
    net = mixing(rounds, 0, counts=True)
    words = words_of(net, ((count,), ()), {"a": word})
    return words[net[1][net[2][0][1]][3]]


class TestMixing(unittest.TestCase):
    def test_as_many_kinds_of_rows_as_there_are(self):
        kinds = {row[0] if row[0] != "two" else row[2] for row in mixing(3)[1]}
        self.assertEqual(kinds, {"in", "fill", "cut", "number", "join", "not", "pick", "+", "^", "|", "&", "<"})

    def test_no_two_words_become_one(self):
        rounds = 6
        self.assertEqual(len({mixed_word(rounds, word, count) for word in range(0, 4096, 7) for count in (0, 1, 200)}), 586 * 3)

    def test_never_so(self):
        for rounds in (1, 4, 20):
            self.assertEqual(alike(mixing(rounds), mixing(rounds, turned=True)), STATELESS)

    def test_one_word_of_all(self):
        for word in (0, 1, 2, 1234, 2047, 2048, 4095):
            net = mixing(8, mixed_word(8, word))
            for one, other in ((net, mixing(8)), (mixing(8, turned=True), net)):
                self.assertEqual(alike(one, other), ("apart", ((("a", word),),)))
            self.assertEqual(alike(net, mixing(8, mixed_word(8, word), turned=True)), STATELESS)

    def test_one_word_and_one_count_of_all(self):
        for word, count in ((0, 0), (77, 1), (4094, 100), (2049, 255)):
            net = mixing(5, mixed_word(5, word, count), counts=True)
            kind, beats = alike(net, mixing(5, counts=True))
            self.assertEqual((kind, len(beats), beats[-1]), ("apart", count + 1, (("a", word),)))

    def test_all_counts(self):
        pairs = tuple((((count,), ()), ((count,), ())) for count in range(256))
        self.assertEqual(alike(mixing(5, counts=True), mixing(5, turned=True, counts=True)), ("alike", pairs))

    def test_3000_rows(self):
        rounds = 1
        while len(mixing(rounds + 1)[1]) <= 3000:
            rounds += 1
        self.assertGreater(len(mixing(rounds)[1]), 2980)
        self.assertTrue(is_net(mixing(rounds)))
        self.assertEqual(alike(mixing(rounds), mixing(rounds, turned=True)), STATELESS)
        net = mixing(rounds - 1, mixed_word(rounds - 1, 3210))
        self.assertEqual(alike(net, mixing(rounds)), ("apart", ((("a", 3210),),)))


class TestProducts(unittest.TestCase):
    def product_net(self, turned, out):
        """Tells of the product of two doors what out, a function of the rows and the product's row, puts."""
        rows = Rows()
        sides = [rows.put("in", 6, 0), rows.put("in", 6, 1)]
        return rows.net((("a", 6), ("b", 6)), *out(rows, rows.product(*(reversed(sides) if turned else sides))))

    def test_sides_turned_round(self):
        def bits(rows, product):
            return [rows.bit(product, place) for place in range(12)]

        def whole(rows, product):
            return [product]

        for out in (bits, whole):
            self.assertEqual(alike(self.product_net(False, out), self.product_net(True, out)), STATELESS)

    def test_a_word_that_two_words_make(self):
        def is_prime(rows, product):
            return [rows.two("==", product, rows.number(12, 59 * 61))]

        def never(rows, product):
            return [rows.number(1, 0)]

        kind, beats = alike(self.product_net(False, is_prime), self.product_net(True, never))
        self.assertEqual((kind, len(beats)), ("apart", 1))
        self.assertIn(beats[0], ((("a", 59), ("b", 61)), (("a", 61), ("b", 59))))

        def is_no_product(rows, product):
            return [rows.two("==", product, rows.number(12, 67 * 59))]

        self.assertEqual(alike(self.product_net(False, is_no_product), self.product_net(True, never)), STATELESS)

    def test_a_rest_that_is_a_bit_of_a_product(self):
        def net(turned):
            rows = Rows(turned)
            door, held = rows.put("fill", 32, rows.put("in", 12, 0)), rows.put("rest", 1, 0)
            product = rows.product(door, rows.mixed(door, 3))
            return rows.net(DOOR, held, rests=(("r", 1, 0, rows.bit(product, 13)),))

        pairs = [(((word,), ()), ((word,), ())) for word in (0, 1)]
        self.assertEqual(alike(net(False), net(True)), ("alike", tuple(pairs)))


class TestMadeNets(Alikes):
    def many_sided(self, choice):
        """A net of 12 bits of doors and few of states, with all kinds of rows behind a mixed word."""
        ins = choice.choice(((12,), (5, 7), (1, 8, 3), (11, 1)))
        maker = NetMaker(choice, (1, 2, 12, 64), 15)
        rows = Rows()
        word = rows.put("in", ins[0], 0)
        for k, width in enumerate(ins[1:], 1):
            side = rows.put("in", width, k)
            word = rows.put("join", rows.rows[word][1] + width, word, side)
        rows.mixed(rows.put("join", 60, rows.put("fill", 48, word), word), 1)
        maker.rows = list(rows.rows)
        return maker.made(ins, [1] * choice.randrange(2), [(1, 1)] * choice.randrange(2))

    def test_beside_themselves_made_fewer(self):
        choice = random.Random(95)
        for _ in range(5):
            net = self.many_sided(choice)
            self.is_alike(net, fewer(net))

    def test_with_a_door_put_otherwise(self):
        choice = random.Random(96)
        apart = 0
        for _ in range(6):
            net = self.many_sided(choice)
            at = choice.randrange(len(net[1]))
            width = net[1][at][1]
            # The net, but that one row's word is another one for a single word of the doors at the most.
            rows = list(net[1]) + [("number", width, choice.randrange(2 ** width)), ("two", 1, "==", at, len(net[1]))]
            one = (*net[:1], tuple(rows), (("s", len(rows) - 1),), *net[3:])
            other = (*net[:1], tuple(rows + [("number", 1, 0)]), (("s", len(rows)),), *net[3:])
            if alike(one, other)[0] == "apart":
                apart += 1
                self.is_apart(one, other)
            else:
                self.is_alike(one, other)
        self.assertTrue(0 < apart < 6, apart)


class TestGoings(unittest.TestCase):
    def test_goings_of_any_size_tell_the_same(self):
        nets = [(net, fewer(net)) for net in small_nets(60, 97)]
        nets += [(mixing(2, mixed_word(2, 1234)), mixing(2)), (mixing(2), mixing(2, turned=True))]
        for one, other in nets:
            wanted = alike(one, other)
            for most in (0, 1, 2) if len(all_words(one)) < 4096 else (5, 8):
                with unittest.mock.patch("wireyard.alike.MOST_COLUMN_BITS", most):
                    self.assertEqual(alike(one, other), wanted)


class TestBounds(unittest.TestCase):
    def test_300_pairs_with_rows_that_only_the_doors_lead_to(self):
        def net(turned, last):
            rows = Rows(turned)
            start = rows.put("fill", 64, rows.put("in", 12, 0))
            mixed = rows.mixed(start, 12)
            count = rows.put("rest", 12, 0)
            more = rows.two("+", count, rows.number(12, 1))
            after = rows.put("pick", 12, rows.two("==", count, rows.number(12, last)), rows.number(12, 0), more)
            never = rows.two("<", rows.two("|", mixed, start), rows.two("&", mixed, start))
            return rows.net(DOOR, rows.two("^", never, rows.bit(count, 0)), rests=(("c", 12, 0, after),))

        kind, pairs = alike(net(False, 299), net(True, 299))
        self.assertEqual((kind, len(pairs), pairs[299]), ("alike", 300, (((299,), ()), ((299,), ()))))
        with self.assertRaises(TooMany):
            alike(net(False, 301), net(True, 301))

    def test_a_state_of_24_bits_that_many_sided_rows_lead_to(self):
        def net(turned):
            rows = Rows(turned)
            mixed = rows.mixed(rows.put("fill", 64, rows.put("in", 12, 0)), 6)
            held = [rows.put("rest", 6, k) for k in range(2)]
            few = [rows.put("fill", 6, rows.bit(mixed, place)) for place in (40, 3)]
            told = rows.two("^", *held)
            return rows.net(DOOR, told, rests=tuple((f"r{k}", 6, 0, row) for k, row in enumerate(few)))

        one = net(False)
        kind, pairs = alike(one, net(True))
        wanted = {next_of(one, first_state(one), doors)[1] for doors in all_words(one)}
        self.assertEqual((kind, sorted(pairs)), ("alike", [(state, state) for state in sorted(wanted)]))


if __name__ == "__main__":
    unittest.main()
