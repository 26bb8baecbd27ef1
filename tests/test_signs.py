import unittest

from wireyard.signs import is_name, words_of

TOLD = "part in out wire rest let use table memory if then else cut join fill".split()
MARKS = ": , . = == < & | ^ + - ~ ( ) [ ]".split()


class TestIsName(unittest.TestCase):
    def test_names(self):
        for name in ("a", "z", "w", "a1", "adder", "abcdefgh", "a2345678", "z9", "e0", "inn", "parts", "cut1", "iff"):
            self.assertIs(is_name(name), True, name)

    def test_too_short_and_too_long(self):
        self.assertIs(is_name(""), False)
        self.assertIs(is_name("abcdefgh"), True)
        self.assertIs(is_name("abcdefghi"), False)
        self.assertIs(is_name("a" * 1000), False)

    def test_a_figure_first(self):
        for text in ("1", "1a", "0", "9z", "12345678"):
            self.assertIs(is_name(text), False, text)

    def test_other_signs(self):
        for text in ("A", "aB", "Ab", "a_b", "_a", "a b", " a", "a ", "a.b", "a-b", "a\n", "\n", "a#", "u.", "-", "'a'"):
            self.assertIs(is_name(text), False, text)

    def test_told_words(self):
        for word in TOLD:
            self.assertIs(is_name(word), False, word)

    def test_things_of_all_kinds(self):
        for thing in (None, True, False, 0, 1, -5, 2.5, b"a", [], ["a"], ("a",), ("a", "b"), {}, {"a": 1}, {"a"}, object()):
            self.assertIs(is_name(thing), False, thing)


class TestWordsOf(unittest.TestCase):
    def test_a_row(self):
        self.assertEqual(words_of("rest r 8 = a + 1:8"), [
            ("told", "rest"), ("name", "r"), ("number", 8), ("mark", "="), ("name", "a"),
            ("mark", "+"), ("number", 1), ("mark", ":"), ("number", 8),
        ])

    def test_nothing(self):
        for row in ("", " ", "      ", "#", "# all of it", "   # a b c", "##", "#a#b"):
            self.assertEqual(words_of(row), [], row)

    def test_each_told_word(self):
        for word in TOLD:
            self.assertEqual(words_of(word), [("told", word)])
            self.assertEqual(words_of(word + "1"), [("name", word + "1")])

    def test_each_mark(self):
        for mark in MARKS:
            self.assertEqual(words_of(mark), [("mark", mark)])
            self.assertEqual(words_of("a" + mark + "b"), [("name", "a"), ("mark", mark), ("name", "b")])
            self.assertEqual(words_of(" a " + mark + " b "), [("name", "a"), ("mark", mark), ("name", "b")])

    def test_the_longest_mark_counts(self):
        two, one = ("mark", "=="), ("mark", "=")
        self.assertEqual(words_of("=="), [two])
        self.assertEqual(words_of("= ="), [one, one])
        self.assertEqual(words_of("==="), [two, one])
        self.assertEqual(words_of("= =="), [one, two])
        self.assertEqual(words_of("===="), [two, two])
        self.assertEqual(words_of("=#="), [one])

    def test_all_marks_side_by_side(self):
        text = ":,.==<=&|^+-~()[]"
        marks = [":", ",", ".", "==", "<", "=", "&", "|", "^", "+", "-", "~", "(", ")", "[", "]"]
        self.assertEqual(words_of(text), [("mark", mark) for mark in marks])

    def test_names(self):
        for name in ("a", "a2345678", "abcdefgh", "w", "x0"):
            self.assertEqual(words_of(name), [("name", name)])
        for text in ("abcdefghi", "a23456789", "aB", "A", "Part", "IN", "a_b", "a$"):
            self.assertIsNone(words_of(text), text)

    def test_numbers(self):
        for text in ("0", "1", "9", "10", "64", "18446744073709551616", "99999999999999999999"):
            told = words_of(text)
            self.assertEqual(told, [("number", int(text))])
            self.assertIs(type(told[0][1]), int)

    def test_no_numbers(self):
        for text in ("00", "01", "007", "100000000000000000000", "0" * 20, "1" * 21, "0" * 21):
            self.assertIsNone(words_of(text), text)

    def test_letters_and_figures_side_by_side_are_one_word(self):
        for text in ("8w", "1a", "0x1", "12ab", "1e5", "abcd12345", "inoutwire", "1in", "00a"):
            self.assertIsNone(words_of(text), text)
        self.assertEqual(words_of("w8"), [("name", "w8")])
        self.assertEqual(words_of("8 w"), [("number", 8), ("name", "w")])
        self.assertEqual(words_of("partin"), [("name", "partin")])
        self.assertEqual(words_of("in out"), [("told", "in"), ("told", "out")])

    def test_blanks_and_none(self):
        close = words_of("let s=cut(a,0,4)+~b[c.d]==1:w")
        self.assertEqual(close, words_of("  let   s = cut ( a , 0 , 4 ) + ~ b [ c . d ] == 1 : w   "))
        self.assertEqual(close[:6], [
            ("told", "let"), ("name", "s"), ("mark", "="), ("told", "cut"), ("mark", "("), ("name", "a"),
        ])
        self.assertEqual(close[-4:], [("mark", "=="), ("number", 1), ("mark", ":"), ("name", "w")])

    def test_remarks(self):
        self.assertEqual(words_of("in a 8 # the first one"), [("told", "in"), ("name", "a"), ("number", 8)])
        self.assertEqual(words_of("a#b"), [("name", "a")])
        self.assertEqual(words_of("a # ! $ A_B 00 \\ ?"), [("name", "a")])
        self.assertEqual(words_of("a # b # c"), [("name", "a")])

    def test_what_is_no_word(self):
        for row in ("!", "a !", "a > b", "a / b", "a * b", "a; b", "{", "}", "\"", "'", "?", "@", "\\", "$", "_", "`", "B"):
            self.assertIsNone(words_of(row), row)
        self.assertIsNone(words_of("in a 8 !"))
        self.assertIsNone(words_of("! # a"))
        self.assertIsNone(words_of("in a 08 # a"))

    def test_what_was_told_is_the_askers_own(self):
        told = words_of("in a 8")
        told.append(("name", "b"))
        told[0] = ("told", "out")
        self.assertEqual(words_of("in a 8"), [("told", "in"), ("name", "a"), ("number", 8)])
        empty = words_of("")
        empty.append(1)
        self.assertEqual(words_of(""), [])

    def test_kinds_of_values(self):
        told = words_of("let a = 5")
        self.assertIs(type(told), list)
        for word in told:
            self.assertIs(type(word), tuple)
            self.assertEqual(len(word), 2)

    def test_place(self):
        self.assertEqual(is_name.__module__, "wireyard.signs")
        self.assertEqual(words_of.__module__, "wireyard.signs")


if __name__ == "__main__":
    unittest.main()
