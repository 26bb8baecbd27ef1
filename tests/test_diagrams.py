import itertools
import random
import unittest

from wireyard.diagrams import Diagrams
from wireyard.errors import TooMany, YardError


def telling(diagrams, knot, bits):
    """What a knot tells of all words of so many bits."""
    return tuple(diagrams.told(knot, word) for word in range(2 ** bits))


class Book:
    """Knots with what they should tell of all words of a few bits, beside a diagram."""

    def __init__(self, bits, most):
        self.bits = bits
        self.words = range(2 ** bits)
        self.diagrams = Diagrams(most)
        self.knots = {0: (0,) * 2 ** bits, 1: (1,) * 2 ** bits}

    def some(self, choice):
        return choice.choice(list(self.knots))

    def asked(self, choice):
        """One thing to ask: a method's name, what it is given, and what the knot then tells."""
        one, other, third = [self.some(choice) for _ in range(3)]
        place = choice.randrange(self.bits)
        tells = self.knots
        return choice.choice((
            ("bit", (place,), tuple(word >> place & 1 for word in self.words)),
            ("both", (one, other), tuple(a & b for a, b in zip(tells[one], tells[other]))),
            ("either", (one, other), tuple(a | b for a, b in zip(tells[one], tells[other]))),
            ("unlike", (one, other), tuple(a ^ b for a, b in zip(tells[one], tells[other]))),
            ("turned", (one,), tuple(1 - a for a in tells[one])),
            ("chosen", (one, other, third), tuple(b if a else c for a, b, c in zip(tells[one], tells[other], tells[third]))),
            ("choice", (place, one, other), tuple(tells[other if word >> place & 1 else one][word] for word in self.words)),
        ))

    def knots_for(self, tells):
        """How many knots beside 0 and 1 there are where these are told, and all that is left of them."""
        found = set()
        left = list(tells)
        while left:
            told = left.pop()
            if told in found or len(set(told)) == 1:
                continue
            found.add(told)
            # The first bit by which it chooses is the first one that makes it tell otherwise.
            for bit in range(self.bits):
                low = tuple(told[word & ~(1 << bit)] for word in self.words)
                high = tuple(told[word | 1 << bit] for word in self.words)
                if low != high:
                    left += [low, high]
                    break
        return len(found)


class TestKnots(unittest.TestCase):
    def test_at_first(self):
        diagrams = Diagrams()
        self.assertEqual(diagrams.how_many(), 0)
        for word in (0, 1, 5, 1023):
            self.assertEqual((diagrams.told(0, word), diagrams.told(1, word)), (0, 1))
        self.assertEqual((diagrams.way(0), diagrams.way(1)), (None, 0))
        self.assertEqual((diagrams.beyond(0, 10, 5), diagrams.beyond(1, 10, 5)), (0, 1))

    def test_bits(self):
        diagrams = Diagrams()
        knots = []
        for place in (3, 0, 9, 1):
            many = diagrams.how_many()
            knots.append(diagrams.bit(place))
            self.assertIs(type(knots[-1]), int)
            self.assertEqual(diagrams.how_many(), many + 1)
            self.assertEqual(diagrams.bit(place), knots[-1])
            self.assertEqual(diagrams.how_many(), many + 1)
            for word in range(1024):
                self.assertEqual(diagrams.told(knots[-1], word), word >> place & 1)
            self.assertEqual(diagrams.way(knots[-1]), 2 ** place)
        self.assertEqual(len({0, 1, *knots}), 6)

    def test_choices(self):
        diagrams = Diagrams()
        later = diagrams.bit(2)
        self.assertEqual(diagrams.choice(1, later, later), later)
        self.assertEqual(diagrams.choice(0, 1, 1), 1)
        self.assertEqual(diagrams.choice(1, 0, 1), diagrams.bit(1))
        knot = diagrams.choice(1, later, 0)
        self.assertEqual(diagrams.choice(1, later, 0), knot)
        self.assertEqual(telling(diagrams, knot, 3), (0, 0, 0, 0, 1, 1, 0, 0))
        self.assertEqual(diagrams.choice(0, knot, knot), knot)
        self.assertEqual(diagrams.how_many(), 3)
        self.assertEqual(diagrams.way(knot), 4)

    def test_choices_by_a_bit_that_is_no_earlier_one(self):
        diagrams = Diagrams()
        one, other = diagrams.bit(0), diagrams.bit(1)
        self.assertEqual(telling(diagrams, diagrams.choice(1, one, 0), 2), (0, 1, 0, 0))
        self.assertEqual(diagrams.choice(0, other, one), diagrams.either(one, other))
        self.assertEqual(diagrams.choice(1, other, other), other)
        self.assertEqual(diagrams.choice(1, one, other), diagrams.either(one, other))

    def test_knots_that_tell_alike_are_one(self):
        diagrams = Diagrams()
        a, b, c = [diagrams.bit(place) for place in range(3)]
        self.assertEqual(diagrams.both(a, diagrams.either(b, c)), diagrams.either(diagrams.both(c, a), diagrams.both(b, a)))
        self.assertEqual(diagrams.turned(diagrams.both(a, b)), diagrams.either(diagrams.turned(b), diagrams.turned(a)))
        self.assertEqual(diagrams.unlike(diagrams.unlike(a, b), diagrams.unlike(c, b)), diagrams.unlike(c, a))
        self.assertEqual(diagrams.chosen(a, b, diagrams.turned(b)), diagrams.turned(diagrams.unlike(a, b)))
        self.assertEqual(diagrams.both(a, diagrams.turned(a)), 0)
        self.assertEqual(diagrams.either(a, diagrams.turned(a)), 1)
        self.assertEqual(diagrams.unlike(c, c), 0)
        self.assertEqual(diagrams.turned(diagrams.turned(c)), c)
        self.assertEqual([diagrams.turned(0), diagrams.turned(1)], [1, 0])
        self.assertEqual(diagrams.chosen(c, a, a), a)

    def test_all_of_numbers(self):
        diagrams = Diagrams(0)
        for one, other, third in itertools.product((0, 1), repeat=3):
            self.assertEqual(diagrams.both(one, other), one & other)
            self.assertEqual(diagrams.either(one, other), one | other)
            self.assertEqual(diagrams.unlike(one, other), one ^ other)
            self.assertEqual(diagrams.chosen(one, other, third), other if one else third)
        self.assertEqual(diagrams.how_many(), 0)


class TestMany(unittest.TestCase):
    def test_all_words_of_a_few_bits(self):
        choice = random.Random(31)
        for _ in range(60):
            book = Book(choice.choice((1, 2, 3, 4, 5)), 2000)
            diagrams = book.diagrams
            for _ in range(40):
                name, given, tells = book.asked(choice)
                knot = getattr(diagrams, name)(*given)
                self.assertIs(type(knot), int)
                self.assertEqual(telling(diagrams, knot, book.bits), tells, (name, given))
                # One knot for each telling, and one telling for each knot.
                self.assertEqual(knot in book.knots, tells in book.knots.values())
                self.assertEqual(book.knots.setdefault(knot, tells), tells)
            for knot, tells in book.knots.items():
                self.assertEqual(telling(diagrams, knot, book.bits), tells)
                self.assertEqual(diagrams.way(knot), tells.index(1) if 1 in tells else None)
            # No knot is there that nobody asked for, in itself or within another one.
            self.assertEqual(diagrams.how_many(), book.knots_for(book.knots.values()))
            self.assertGreaterEqual(min(book.knots), 0)
            self.assertLessEqual(max(book.knots), diagrams.how_many() + 1)

    def test_beyond(self):
        choice = random.Random(32)
        for _ in range(20):
            book = Book(4, 2000)
            for _ in range(20):
                name, given, tells = book.asked(choice)
                book.knots[getattr(book.diagrams, name)(*given)] = tells
            many = book.diagrams.how_many()
            for knot, tells in book.knots.items():
                for size, word in itertools.product(range(6), book.words):
                    left = book.diagrams.beyond(knot, size, word)
                    first = 2 ** min(size, 4) - 1
                    self.assertEqual(telling(book.diagrams, left, 4), tuple(tells[word & first | other & ~first] for other in book.words))
            self.assertEqual(book.diagrams.how_many(), many)

    def test_ten_bits(self):
        diagrams = Diagrams()
        bits = [diagrams.bit(place) for place in range(10)]
        odd, all_of, some_of = 0, 1, 0
        for bit in bits:
            odd, all_of, some_of = diagrams.unlike(odd, bit), diagrams.both(all_of, bit), diagrams.either(some_of, bit)
        for word in range(1024):
            self.assertEqual(diagrams.told(odd, word), bin(word).count("1") % 2)
            self.assertEqual(diagrams.told(all_of, word), int(word == 1023))
            self.assertEqual(diagrams.told(some_of, word), int(word != 0))
        self.assertEqual([diagrams.way(knot) for knot in (odd, all_of, some_of)], [1, 1023, 1])
        self.assertEqual(diagrams.way(diagrams.both(odd, diagrams.turned(bits[0]))), 2)
        self.assertEqual(diagrams.way(diagrams.both(diagrams.turned(odd), bits[9])), 513)


class TestMost(unittest.TestCase):
    def refused(self, diagrams, name, *given):
        many = diagrams.how_many()
        for _ in range(2):
            with self.assertRaises(TooMany) as caught:
                getattr(diagrams, name)(*given)
            self.assertEqual((type(caught.exception), TooMany.__bases__), (TooMany, (YardError,)))
            self.assertEqual(diagrams.how_many(), many)

    def test_one_more_than_most(self):
        diagrams = Diagrams(2)
        one, other = diagrams.bit(0), diagrams.bit(4)
        self.refused(diagrams, "bit", 1)
        self.refused(diagrams, "choice", 3, other, 1)
        self.refused(diagrams, "choice", 4, one, 0)
        self.refused(diagrams, "both", one, other)
        self.refused(diagrams, "either", one, other)
        self.refused(diagrams, "unlike", one, other)
        self.refused(diagrams, "turned", one)
        self.refused(diagrams, "chosen", one, other, 1)
        self.assertEqual((diagrams.bit(0), diagrams.bit(4)), (one, other))
        self.assertEqual(diagrams.both(one, one), one)
        for word in range(32):
            self.assertEqual((diagrams.told(one, word), diagrams.told(other, word)), (word & 1, word >> 4))

    def test_none_at_all(self):
        diagrams = Diagrams(0)
        self.refused(diagrams, "bit", 0)
        self.refused(diagrams, "choice", 0, 0, 1)
        self.assertEqual(diagrams.how_many(), 0)

    def test_most_left_out_is_2000(self):
        diagrams = Diagrams()
        choice = random.Random(34)
        knots = [diagrams.bit(place) for place in range(10)]
        refused = 0
        while refused < 50:
            many = diagrams.how_many()
            try:
                knots.append(diagrams.unlike(diagrams.both(choice.choice(knots), choice.choice(knots)), choice.choice(knots)))
            except TooMany:
                refused += 1
                self.assertLessEqual(diagrams.how_many(), 2000)
                self.assertLessEqual(many, diagrams.how_many())
        left = 2000 - diagrams.how_many()
        place = 0
        while left:
            before = diagrams.how_many()
            diagrams.bit(20 + place)
            left -= diagrams.how_many() - before
            place += 1
        self.assertEqual(diagrams.how_many(), 2000)
        self.refused(diagrams, "bit", 5000)

    def test_just_as_many_as_are_needed(self):
        choice = random.Random(35)
        for _ in range(150):
            book = Book(4, 2000)
            asked = []
            for _ in range(6):
                name, given, tells = book.asked(choice)
                asked.append((name, given))
                book.knots[getattr(book.diagrams, name)(*given)] = tells
            many = book.knots_for(book.knots.values())
            self.assertEqual(book.diagrams.how_many(), many)
            enough = Diagrams(many)
            for name, given in asked:
                getattr(enough, name)(*given)
            self.assertEqual(enough.how_many(), many)
            if many:
                short = Diagrams(many - 1)
                with self.assertRaises(TooMany):
                    for name, given in asked:
                        getattr(short, name)(*given)

    def test_what_was_there_stays_and_is_told_on(self):
        choice = random.Random(36)
        refused = 0
        for _ in range(60):
            book = Book(4, choice.choice((1, 3, 6, 10)))
            diagrams = book.diagrams
            for _ in range(60):
                name, given, tells = book.asked(choice)
                many = diagrams.how_many()
                try:
                    knot = getattr(diagrams, name)(*given)
                except TooMany:
                    refused += 1
                    self.assertEqual(diagrams.how_many(), many)
                    continue
                self.assertLessEqual(diagrams.how_many(), diagrams.most)
                self.assertEqual(knot in book.knots, tells in book.knots.values())
                book.knots[knot] = tells
                for knot, tells in book.knots.items():
                    self.assertEqual(telling(diagrams, knot, 4), tells)
                    self.assertEqual(diagrams.way(knot), tells.index(1) if 1 in tells else None)
        self.assertGreater(refused, 500)

    def test_two_side_by_side(self):
        one, other = Diagrams(3), Diagrams(1)
        knot = other.bit(5)
        first, second = one.bit(0), one.bit(1)
        third = one.both(first, second)
        self.refused(other, "bit", 0)
        self.refused(one, "bit", 2)
        self.assertEqual([one.told(knot_of, 3) for knot_of in (first, second, third)], [1, 1, 1])
        self.assertEqual((other.told(knot, 32), other.told(knot, 3), other.how_many(), one.how_many()), (1, 0, 1, 3))

    def test_methods_stand_in_the_class(self):
        self.assertEqual(Diagrams.__module__, "wireyard.diagrams")
        for name in ("how_many", "bit", "choice", "both", "either", "unlike", "turned", "chosen", "told", "beyond", "way"):
            self.assertIn(name, vars(Diagrams))


if __name__ == "__main__":
    unittest.main()
