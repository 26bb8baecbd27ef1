import unittest

from wireyard.errors import BadText
from wireyard.reading import read

A, B, C = ("name", "a"), ("name", "b"), ("name", "c")
ROW = "in a 8"

WHOLE = """\
# two numbers and what they come to
part adder w
  in a w
  in b w
  out s w
  out c 1
  wire sum (w + 1)

  let sum = fill(a, (w + 1)) + fill(b, (w + 1))   # one bit more
  let s = cut(sum, 0, w)
  let c = cut(sum, w1, 1)
"""


def lines_of(*lines):
    return "\n".join(lines)


class Reading(unittest.TestCase):
    def reads_row(self, text, row):
        self.assertEqual(read("part p\n" + text), (("p", (), (row,)),), text)

    def refuses(self, text, at):
        with self.assertRaises(BadText, msg=repr(text)[:200]) as caught:
            read(text)
        self.assertEqual(caught.exception.at, at, repr(text)[:200])

    def refuses_row(self, text):
        self.refuses("part p\nin a 8\n\n" + text + "\nin b 8", 3)
        self.refuses("part p\n" + text, 1)


class TestRows(Reading):
    def test_doors_and_wires(self):
        for word in ("in", "out", "wire"):
            self.reads_row(f"{word} a 8", (word, "a", ("", 8)))
            self.reads_row(f"{word} a w", (word, "a", ("w", 0)))
            self.reads_row(f"{word} a (w + 1)", (word, "a", ("w", 1)))
            self.reads_row(f" {word}  a(w-64) # b", (word, "a", ("w", -64)))
            for rest in ("", " a", " 8", " a 8 8", " 8 a", " a 8:8", " a = 8", " a, b 8", " a a 8", " a 8 = b", " in 8",
                         " a in", " a (w)", " a (8)", " a (8 + 1)", " a ()", " abcdefghi 8", " A 8", " u.a 8"):
                self.refuses_row(word + rest)

    def test_widths_at_their_bounds(self):
        for number in (1, 2, 63, 64):
            self.reads_row(f"in a {number}", ("in", "a", ("", number)))
            self.reads_row(f"in a (w + {number})", ("in", "a", ("w", number)))
            self.reads_row(f"in a (w - {number})", ("in", "a", ("w", -number)))
        for number in ("0", "65", "100", "18446744073709551616", "01", "-1", "1:1"):
            self.refuses_row(f"in a {number}")
            self.refuses_row(f"in a (w + {number})")
            self.refuses_row(f"in a (w - {number})")
            self.refuses_row(f"rest a {number} 0 = a")
            self.refuses_row(f"table a {number}: 0")
            self.refuses_row(f"memory a {number} 1: a, b, c")
            self.refuses_row(f"use u p({number})")

    def test_rests(self):
        self.reads_row("rest r 8 0 = a", ("rest", "r", ("", 8), 0, A))
        self.reads_row("rest r w 5=a+b", ("rest", "r", ("w", 0), 5, ("two", "+", A, B)))
        self.reads_row("rest r (w + 1) 99999999999999999999 = if a then b else c",
                       ("rest", "r", ("w", 1), 10 ** 20 - 1, ("pick", A, B, C)))
        for row in ("rest", "rest r", "rest r 8", "rest r 8 0", "rest r 8 0 =", "rest r 8 = a", "rest r 0 = a", "rest 8 0 = a",
                    "rest r 8 0 a", "rest r 8 0 == a", "rest r 8 0: a", "rest r 8 0 = a, b", "rest r 8 w = a",
                    "rest r 8 0:8 = a", "rest r 8 -1 = a", "rest r 8 100000000000000000000 = a", "rest r 8 0 = a = b"):
            self.refuses_row(row)

    def test_lets(self):
        self.reads_row("let s = a", ("let", "s", A))
        self.reads_row("let s=a==b", ("let", "s", ("two", "==", A, B)))
        self.reads_row("let s = if a then b else c", ("let", "s", ("pick", A, B, C)))
        for row in ("let", "let s", "let s =", "let = a", "let s a", "let s == a", "let s : a", "let s 8 = a", "let s = a b",
                    "let s = a = b", "let u.s = a", "let s = a,", "let s = 8", "let 8 = a", "let in = a", "let s = =a",
                    "let s = a < b < c", "let s = a + if a then b else c", "let s = " + "~" * 10 + "a",
                    "let s = " + "(" * 11 + "a" + ")" * 11):
            self.refuses_row(row)

    def test_uses(self):
        self.reads_row("use u adder", ("use", "u", "adder", (), ()))
        self.reads_row("use u adder: a", ("use", "u", "adder", (), (A,)))
        self.reads_row("use u adder(8)", ("use", "u", "adder", (("", 8),), ()))
        self.reads_row("use u adder(8, w): a, b + 1:8", (
            "use", "u", "adder", (("", 8), ("w", 0)), (A, ("two", "+", B, ("number", 1, ("", 8)))),
        ))
        self.reads_row("use u adder ( w , ( v + 1 ) , (k-2) ) :a,b", (
            "use", "u", "adder", (("w", 0), ("v", 1), ("k", -2)), (A, B),
        ))
        self.reads_row("use u u: 1:8", ("use", "u", "u", (), (("number", 1, ("", 8)),)))
        self.reads_row("use u p: if a then b else c, a", ("use", "u", "p", (), (("pick", A, B, C), A)))
        for row in ("use", "use u", "use u 8", "use u p 8", "use u p()", "use u p:", "use u p(8):", "use u p(8", "use u p 8)",
                    "use u p(8,)", "use u p(, 8)", "use u p(8 8)", "use u p: a,", "use u p: , a", "use u p: a b", "use u p a",
                    "use u p = a", "use u p(8) a", "use u p: a(8)", "use u p[8]: a", "use u p(a + b): a", "use u.v p",
                    "use u p: a; b", "use u in", "use in p", "use u p: 8", "use u p(8:8): a"):
            self.refuses_row(row)

    def test_one_to_three_widths(self):
        for many in (1, 2, 3):
            text = ", ".join(["8"] * many)
            self.reads_row(f"use u p({text})", ("use", "u", "p", (("", 8),) * many, ()))
        for many in (4, 5, 50):
            self.refuses_row("use u p(" + ", ".join(["8"] * many) + ")")

    def test_one_to_twelve_terms(self):
        for many in (1, 2, 11, 12):
            text = ", ".join(["a"] * many)
            self.reads_row(f"use u p: {text}", ("use", "u", "p", (), (A,) * many))
        for many in (13, 14, 100):
            self.refuses_row("use u p: " + ", ".join(["a"] * many))

    def test_each_term_of_a_use_has_bounds_of_its_own(self):
        deep = "~" * 9 + "a"
        broad = "(" * 9 + "a" + ")" * 9
        row = read("part p\nuse u p: " + ", ".join([deep, broad] * 6))[0][2][0]
        self.assertEqual(len(row[4]), 12)
        sums = "((a + a) + (a + a)) + ((a + a) + (a + a)) + (a + a)"
        row = read("part p\nuse u p: " + ", ".join([sums] * 12))[0][2][0]
        self.assertEqual(len(row[4]), 12)

    def test_tables(self):
        self.reads_row("table t 8: 0", ("table", "t", ("", 8), (0,)))
        self.reads_row("table t (w + 1):1,2 , 99999999999999999999", ("table", "t", ("w", 1), (1, 2, 10 ** 20 - 1)))
        for row in ("table", "table t", "table t 8", "table t 8:", "table t: 1", "table 8: 1", "table t 8: 1,", "table t 8: ,1",
                    "table t 8: 1 2", "table t 8 1, 2", "table t 8 = 1", "table t 8: a", "table t 8: 1:8", "table t 8: -1",
                    "table t 8: 01", "table t 8: (1)", "table t 8: 1, 2 = 3", "table t 8: 100000000000000000000"):
            self.refuses_row(row)

    def test_one_to_32_numbers(self):
        for many in (1, 2, 31, 32):
            text = ", ".join(["7"] * many)
            self.reads_row(f"table t 8: {text}", ("table", "t", ("", 8), (7,) * many))
        for many in (33, 34, 100):
            self.refuses_row("table t 8: " + ", ".join(["7"] * many))

    def test_memories(self):
        self.reads_row("memory m 8 4: a, b, c", ("memory", "m", ("", 8), 4, A, B, C))
        self.reads_row("memory m (w - 1) 1:if a then b else c,a+b,1:1", (
            "memory", "m", ("w", -1), 1, ("pick", A, B, C), ("two", "+", A, B), ("number", 1, ("", 1)),
        ))
        for row in ("memory", "memory m", "memory m 8", "memory m 8 4", "memory m 8 4:", "memory m 8 4: a", "memory m 8 4: a, b",
                    "memory m 8 4: a, b, c, a", "memory m 8 4: a, b,", "memory m 8 4 a, b, c", "memory m 8: a, b, c",
                    "memory m 4: a, b, c", "memory m 8 w: a, b, c", "memory m 8 4 = a, b, c", "memory m 8 4: a b c",
                    "memory 8 4: a, b, c", "memory m 8 (4): a, b, c", "memory m 8 4: , b, c"):
            self.refuses_row(row)

    def test_sizes_of_memories(self):
        for size in (1, 2, 31, 32):
            self.reads_row(f"memory m 8 {size}: a, b, c", ("memory", "m", ("", 8), size, A, B, C))
        for size in (0, 33, 100, 10 ** 19):
            self.refuses_row(f"memory m 8 {size}: a, b, c")

    def test_what_is_no_row(self):
        for row in ("a", "8", "=", "a = b", "if a then b else c", "then", "else", "cut(a, 0, 8)", "join", "fill", "(in a 8)",
                    "in a 8 let b = a", "input a 8", "In a 8", "memory1 m 8 4: a, b, c", "in a 8;", "in a $", "in a_b 8",
                    "!", "in abcdefghi 8", "partp", "cut a 8", "if a 8", "join a 8"):
            self.refuses_row(row)


class TestParts(Reading):
    def test_a_yard(self):
        text = WHOLE.replace("w1", "8") + "part main\nin x 8\nout y 9\nuse u adder(8): x, x\nlet y = join(u.c, u.s)"
        grown = ("w", 1)
        self.assertEqual(read(text), (
            ("adder", ("w",), (
                ("in", "a", ("w", 0)),
                ("in", "b", ("w", 0)),
                ("out", "s", ("w", 0)),
                ("out", "c", ("", 1)),
                ("wire", "sum", grown),
                ("let", "sum", ("two", "+", ("fill", A, grown), ("fill", B, grown))),
                ("let", "s", ("cut", ("name", "sum"), 0, ("w", 0))),
                ("let", "c", ("cut", ("name", "sum"), 8, ("", 1))),
            )),
            ("main", (), (
                ("in", "x", ("", 8)),
                ("out", "y", ("", 9)),
                ("use", "u", "adder", (("", 8),), (("name", "x"), ("name", "x"))),
                ("let", "y", ("join", ("of", "u", "c"), ("of", "u", "s"))),
            )),
        ))

    def test_the_number_of_a_cut_is_no_param(self):
        self.refuses(WHOLE, 10)

    def test_params(self):
        for params in ((), ("w",), ("w", "v"), ("w", "v", "k"), ("w", "w", "p")):
            text = " ".join(["part", "p", *params]) + "\n" + ROW
            self.assertEqual(read(text), (("p", params, (("in", "a", ("", 8)),)),))
        for head in ("part p w v k j", "part p a b c d e f", "part p 8", "part p w 8", "part p, w", "part p(w)", "part p w, v",
                     "part", "part part", "part in", "part 8", "part p:", "part p w:", "part p in", "part p = w",
                     "part abcdefghi", "part P", "p", "part p w ! v"):
            self.refuses(head + "\n" + ROW, 0)
            self.refuses("part a\nin a 8\n#\n" + head + "\n" + ROW, 3)

    def test_names_that_looking_refuses_are_read(self):
        self.assertEqual(len(read("part p\nin a w\nin a 8\nlet z = y\nuse u q: a\npart p\nin a 8")), 2)

    def test_one_to_twenty_parts(self):
        for many in (1, 2, 19, 20):
            yard = read(lines_of(*(["part p", ROW] * many)))
            self.assertEqual(yard, (("p", (), (("in", "a", ("", 8)),)),) * many)
        for many in (21, 22, 30):
            self.refuses(lines_of(*(["part p", ROW] * many)), 40)
        self.refuses(lines_of(*(["part p", ROW] * 20), "", "#", "part p", ROW), 42)
        self.refuses(lines_of(*(["part p", ROW] * 20), "part p"), 40)
        self.refuses(lines_of(*(["part p", ROW] * 20), "part p w v k j", ROW), 40)

    def test_one_to_sixty_rows(self):
        for many in (1, 2, 59, 60):
            self.assertEqual(len(read(lines_of("part p", *([ROW] * many)))[0][2]), many)
            self.assertEqual(len(read(lines_of("part p", *([ROW, "", "# x"] * many)))[0][2]), many)
        for many in (61, 62, 100):
            self.refuses(lines_of("part p", *([ROW] * many)), 61)
        self.refuses(lines_of("part p", *([ROW] * 60), "", "#", ROW, "part q", ROW), 63)
        self.refuses(lines_of("part p", *([ROW] * 60), "part q", *([ROW] * 61)), 122)
        self.assertEqual(len(read(lines_of("part p", *([ROW] * 60), "part q", *([ROW] * 60)))), 2)

    def test_blank_rows_and_remarks_between(self):
        plain = read("part p w\nin a w\nlet b = a")
        self.assertEqual(read("\n\n# x\npart p w\n   \n# y z\n  in a w # !\n\n\nlet b = a#\n\n#\n"), plain)
        self.assertEqual(read("   part   p   w   \nin a w   \n      let b=a"), plain)

    def test_kinds_of_values(self):
        def held(thing):
            if isinstance(thing, tuple):
                for inner in thing:
                    held(inner)
            else:
                self.assertIn(type(thing), (str, int))

        yard = read("part p w\nin a w\nrest r 8 0 = a\nuse u p(8): a, b\nuse v p\ntable t 8: 1, 2\nmemory m 8 4: a, b, c")
        held(yard)
        self.assertIs(type(yard), tuple)

    def test_asked_for_again(self):
        text = "part p\nin a 8"
        self.assertEqual(read(text), read(text))

    def test_place(self):
        self.assertEqual(read.__module__, "wireyard.reading")


class TestRefused(Reading):
    def test_no_text(self):
        for thing in (None, True, False, 0, 7, b"part p\nin a 8", ["part p", "in a 8"], [], (), {}, {1: 2}, object(),
                      (("p", (), (("in", "a", ("", 8)),)),)):
            self.refuses(thing, None)

    def test_too_many_signs(self):
        text = "part p\nin a 8"
        self.assertEqual(read(text + " " * (8000 - len(text))), read(text))
        self.assertEqual(read(text + "#" + "x" * (7999 - len(text))), read(text))
        self.refuses(text + " " * (8001 - len(text)), None)
        self.refuses(text + "#" + "x" * (8000 - len(text)), None)
        self.refuses("!" * 8001, None)
        self.refuses("!" * 8000, 0)

    def test_too_many_rows(self):
        text = "part p\nin a 8"
        self.assertEqual(read(text + "\n" * 398), read(text))
        self.refuses(text + "\n" * 399, None)
        self.refuses("!" + "\n" * 400, None)
        self.refuses("!" + "\n" * 399, 0)
        self.refuses("\n" * 399, 400)
        self.refuses("\n" * 400, None)

    def test_ahead_of_the_first_part(self):
        self.refuses("in a 8\npart p\nin a 8", 0)
        self.refuses("\n# x\nin a 8\npart p\nin a 8", 2)
        self.refuses("\nlet a = b", 1)
        self.refuses("in a 8", 0)

    def test_a_part_without_rows(self):
        self.refuses("part p\npart q\nin a 8", 1)
        self.refuses("part p\n\n# x\n\npart q\nin a 8", 4)
        self.refuses("part p\nin a 8\npart q\npart r\nin a 8", 3)
        self.refuses("part p\npart q r s t u\nin a 8", 1)

    def test_at_the_end(self):
        self.refuses("part p", 1)
        self.refuses("part p\n", 2)
        self.refuses("part p\n\n# x\n", 4)
        self.refuses("part p\nin a 8\npart q", 3)
        self.refuses("part p\nin a 8\npart q\n\n", 5)

    def test_no_part(self):
        self.refuses("", 1)
        self.refuses("   ", 1)
        self.refuses("# x", 1)
        self.refuses("\n", 2)
        self.refuses("\n\n  \n#\n", 5)

    def test_line_ends_at_the_end_do_not_matter_else(self):
        text = "part p\nin a 8"
        self.assertEqual(read(text + "\n"), read(text))
        self.assertEqual(read("\n" + text + "\n\n\n"), read(text))

    def test_the_first_of_several(self):
        self.refuses("part p\nin a 65\nin ! 8\nin a 0", 1)
        self.refuses("part p\nin a 8\nin ! 8\nin a 65", 2)
        self.refuses("in a 65\n!", 0)
        self.refuses("part p\nin a 8\npart q\n!", 3)
        self.refuses("!\npart p\nin a 8", 0)

    def test_no_row_goes_over_a_line_end(self):
        self.refuses("part p\nin a\n8", 1)
        self.refuses("part\np\nin a 8", 0)
        self.refuses("part p\nlet a =\nb", 1)

    def test_rows_with_long_terms(self):
        for term in ("if " * 2600 + "a", "(" * 7900, "~" * 7900 + "a", "a+" * 3900 + "a", "m[" * 3900):
            self.refuses("part p\nlet a = " + term, 1)

    def test_made_good_it_is_read(self):
        good = lines_of("part p", "in a 8", "out b 8", "let b = ~a")
        for at, wrong in enumerate(("part p q r s t", "in a 65", "out b", "let b = ~")):
            rows = good.split("\n")
            rows[at] = wrong
            self.refuses(lines_of(*rows), at)
            self.assertEqual(read(good)[0][2][-1], ("let", "b", ("not", A)))


if __name__ == "__main__":
    unittest.main()
