import unittest

from wireyard import bits
from wireyard.bits import (
    MOST_WIDTH, bits_text, cut_word, is_width, is_word, joined_words, top_of, turned, two_words, word_by_bits,
)

NO_NUMBERS = (True, False, None, "8", "", b"8", 8.0, [], [8], (8,), {}, {"a": 8}, {8}, object(), int, len)
SIGNS = ("&", "|", "^", "+", "-", "==", "<")


class TestWidths(unittest.TestCase):
    def test_most_width(self):
        self.assertEqual(MOST_WIDTH, 64)

    def test_widths(self):
        for width in (1, 2, 8, 63, 64):
            self.assertIs(is_width(width), True, width)

    def test_numbers_that_are_no_widths(self):
        for thing in (0, 65, -1, -64, 66, 1000, 2 ** 64, -(2 ** 70)):
            self.assertIs(is_width(thing), False, thing)

    def test_other_things_are_no_widths(self):
        for thing in NO_NUMBERS:
            self.assertIs(is_width(thing), False, thing)


class TestWords(unittest.TestCase):
    def test_at_within_and_beyond_the_bounds(self):
        for width in range(1, 65):
            for word in (0, 1, 2 ** width - 1, 2 ** (width - 1)):
                self.assertIs(is_word(word, width), True, (word, width))
            for word in (-1, 2 ** width, 2 ** width + 1, -(2 ** width), 2 ** 80):
                self.assertIs(is_word(word, width), False, (word, width))

    def test_other_things_are_no_words(self):
        for thing in NO_NUMBERS:
            for width in (1, 8, 64):
                self.assertIs(is_word(thing, width), False, (thing, width))

    def test_top_of(self):
        self.assertEqual([top_of(1), top_of(2), top_of(8), top_of(63)], [1, 3, 255, 9223372036854775807])
        self.assertEqual(top_of(64), 18446744073709551615)

    def test_turned(self):
        self.assertEqual([turned(0, 1), turned(1, 1), turned(5, 3), turned(5, 8)], [1, 0, 2, 250])
        self.assertEqual(turned(0, 64), 2 ** 64 - 1)
        self.assertEqual(turned(2 ** 64 - 1, 64), 0)

    def test_turned_twice_is_the_word(self):
        for width in (1, 5, 64):
            for word in (0, 1, 2 ** width - 1, 2 ** (width - 1)):
                self.assertEqual(turned(turned(word, width), width), word)


class TestTwoWords(unittest.TestCase):
    def test_bit_by_bit(self):
        self.assertEqual(two_words("&", 12, 10, 4), 8)
        self.assertEqual(two_words("|", 12, 10, 4), 14)
        self.assertEqual(two_words("^", 12, 10, 4), 6)

    def test_one_bit(self):
        told = {sign: [two_words(sign, a, b, 1) for a in (0, 1) for b in (0, 1)] for sign in SIGNS}
        self.assertEqual(told, {
            "&": [0, 0, 0, 1], "|": [0, 1, 1, 1], "^": [0, 1, 1, 0], "+": [0, 1, 1, 0],
            "-": [0, 1, 1, 0], "==": [1, 0, 0, 1], "<": [0, 1, 0, 0],
        })

    def test_sums_go_round(self):
        for width in (1, 2, 8, 33, 64):
            top = 2 ** width - 1
            self.assertEqual(two_words("+", top, 1, width), 0)
            self.assertEqual(two_words("+", top, top, width), top - 1)
            self.assertEqual(two_words("+", top - 1, 1, width), top)
            self.assertEqual(two_words("-", 0, 1, width), top)
            self.assertEqual(two_words("-", 0, top, width), 1)
            self.assertEqual(two_words("-", top, top, width), 0)

    def test_sums_that_do_not_go_round(self):
        self.assertEqual(two_words("+", 100, 55, 8), 155)
        self.assertEqual(two_words("-", 100, 55, 8), 45)

    def test_likeness_and_order_are_one_wide(self):
        top = 2 ** 64 - 1
        self.assertEqual([two_words("==", a, b, 64) for a, b in ((top, top), (top, 0), (7, 8))], [1, 0, 0])
        self.assertEqual([two_words("<", a, b, 64) for a, b in ((top, top), (0, top), (top, 0), (7, 8))], [0, 1, 0, 1])

    def test_each_is_a_whole_number(self):
        for sign in SIGNS:
            self.assertIs(type(two_words(sign, 3, 3, 2)), int, sign)
            self.assertIs(type(two_words(sign, 1, 3, 2)), int, sign)

    def test_all_words_of_three_bits(self):
        for a in range(8):
            for b in range(8):
                told = [two_words(sign, a, b, 3) for sign in SIGNS]
                self.assertEqual(told, [a & b, a | b, a ^ b, (a + b) % 8, (a - b) % 8, int(a == b), int(a < b)])


class TestCutAndJoined(unittest.TestCase):
    def test_cut(self):
        self.assertEqual(cut_word(0b11010110, 0, 8), 0b11010110)
        self.assertEqual(cut_word(0b11010110, 1, 3), 0b011)
        self.assertEqual(cut_word(0b11010110, 4, 4), 0b1101)
        self.assertEqual(cut_word(2 ** 64 - 1, 63, 1), 1)
        self.assertEqual(cut_word(2 ** 63, 62, 1), 0)

    def test_cut_beyond_the_word(self):
        self.assertEqual(cut_word(0b1101, 2, 8), 0b11)
        self.assertEqual(cut_word(5, 63, 64), 0)
        self.assertEqual(cut_word(2 ** 63, 63, 64), 1)
        self.assertEqual(cut_word(2 ** 64 - 1, 0, 64), 2 ** 64 - 1)

    def test_joined(self):
        self.assertEqual(joined_words(0b10, 0b011, 3), 0b10011)
        self.assertEqual(joined_words(0, 7, 3), 7)
        self.assertEqual(joined_words(1, 0, 64), 2 ** 64)

    def test_joined_beyond_64_bits(self):
        top = 2 ** 64 - 1
        self.assertEqual(joined_words(top, top, 64), 2 ** 128 - 1)
        self.assertEqual(joined_words(top, 0, 1), 2 * top)

    def test_a_word_cut_in_two_and_joined_is_the_word(self):
        word = 0b1011001110001111
        for many in range(1, 16):
            high = cut_word(word, many, 16 - many)
            self.assertEqual(joined_words(high, cut_word(word, 0, many), many), word)


class TestTexts(unittest.TestCase):
    def test_bits_text(self):
        self.assertEqual(bits_text(0, 1), "0")
        self.assertEqual(bits_text(1, 1), "1")
        self.assertEqual(bits_text(5, 3), "101")
        self.assertEqual(bits_text(2 ** 64 - 1, 64), "1" * 64)

    def test_noughts_ahead(self):
        self.assertEqual(bits_text(5, 8), "00000101")
        self.assertEqual(bits_text(0, 64), "0" * 64)
        self.assertEqual(bits_text(1, 64), "0" * 63 + "1")

    def test_word_by_bits(self):
        self.assertEqual(word_by_bits("0"), 0)
        self.assertEqual(word_by_bits("1"), 1)
        self.assertEqual(word_by_bits("00000101"), 5)
        self.assertEqual(word_by_bits("110"), 6)
        self.assertEqual(word_by_bits("1" * 64), 2 ** 64 - 1)
        self.assertEqual(word_by_bits("1" + "0" * 63), 2 ** 63)

    def test_no_bits(self):
        for text in ("", "0" * 65, "1" * 65, "2", "012", "1 0", " 1", "1 ", "1\n", "-1", "+1", "0b1", "1_0", "a", "1.0"):
            self.assertIsNone(word_by_bits(text), text)

    def test_no_texts(self):
        for thing in (0, 1, 101, True, False, None, b"1", ["1"], ["0", "1"], ("1",), {}, {"1": 1}, {"1"}, object()):
            self.assertIsNone(word_by_bits(thing), thing)

    def test_told_texts_are_read_as_their_words(self):
        for width in range(1, 65):
            for word in (0, 1, 2 ** width - 1, 2 ** (width - 1), 0x123456789ABCDEF0 % 2 ** width):
                text = bits_text(word, width)
                self.assertEqual(len(text), width)
                self.assertEqual(word_by_bits(text), word)


class TestPlace(unittest.TestCase):
    def test_each_is_defined_in_this_file(self):
        for thing in (is_width, is_word, top_of, turned, two_words, cut_word, joined_words, bits_text, word_by_bits):
            self.assertEqual(thing.__module__, bits.__name__)


if __name__ == "__main__":
    unittest.main()
