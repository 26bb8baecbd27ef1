import unittest

from making import depth, trees
from wireyard.errors import BadText
from wireyard.reading import term_in

A, B, C, D = ("name", "a"), ("name", "b"), ("name", "c"), ("name", "d")


def two(sign, one, other):
    return ("two", sign, one, other)


def balanced(many):
    """A sum of so many names in brackets, about as broad as deep."""
    if many == 1:
        return "a"
    return f"({balanced(many // 2)} + {balanced(many - many // 2)})"


class Reading(unittest.TestCase):
    def reads(self, text, term):
        self.assertEqual(term_in(text), term, text)

    def refuses(self, text, at=0):
        with self.assertRaises(BadText, msg=repr(text)[:200]) as caught:
            term_in(text)
        self.assertEqual(caught.exception.at, at, repr(text)[:200])


class TestKinds(Reading):
    def test_numbers(self):
        self.reads("5:8", ("number", 5, ("", 8)))
        self.reads("0:1", ("number", 0, ("", 1)))
        self.reads("99999999999999999999:64", ("number", 10 ** 20 - 1, ("", 64)))
        self.reads("5:w", ("number", 5, ("w", 0)))
        self.reads("5:(w + 1)", ("number", 5, ("w", 1)))
        self.reads("5 : ( w - 64 )", ("number", 5, ("w", -64)))

    def test_no_numbers(self):
        for text in ("5", "5:", ":8", "5:8:8", "05:8", "5:08", "5:0", "5:65", "5:(8)", "5:(w)", "5:(8 + 1)", "5:(w + v)",
                     "5:(w + 0)", "5:(w + 65)", "5:(w - 0)", "5:(w - 65)", "5:(w + 1", "5:w + 1", "5:((w + 1))",
                     "5:(1 + w)", "5:(w & 1)", "5:(w + 1 + 1)", "5:~w", "5:in", "5:(in + 1)", "100000000000000000000:8",
                     "-5:8", "a:8", "5:w.x", "5:w[a]", "5 8", "5.8"):
            self.refuses(text)

    def test_widths_at_their_bounds(self):
        self.reads("fill(a, 1)", ("fill", A, ("", 1)))
        self.reads("fill(a, 64)", ("fill", A, ("", 64)))
        self.reads("fill(a, (w + 64))", ("fill", A, ("w", 64)))
        self.reads("fill(a, (w - 64))", ("fill", A, ("w", -64)))
        self.reads("fill(a, (w + 1))", ("fill", A, ("w", 1)))
        self.reads("fill(a, (w - 1))", ("fill", A, ("w", -1)))
        for width in ("0", "65", "(w + 0)", "(w + 65)", "(w - 0)", "(w - 65)", "(w)", "(5)", "w + 1", "-1", "", "()"):
            self.refuses(f"fill(a, {width})")

    def test_names(self):
        self.reads("a", A)
        self.reads("x2345678", ("name", "x2345678"))
        for text in ("abcdefghi", "A", "part", "in", "then", "1", "1a"):
            self.refuses(text)

    def test_doors_of_uses(self):
        self.reads("u.s", ("of", "u", "s"))
        self.reads(" u  .  s ", ("of", "u", "s"))
        for text in ("u.", ".s", "u.s.t", "u..s", "u.1", "1.s", "u.in", "(u).s", "u.(s)", "u.s[a]", "m[a].s"):
            self.refuses(text)

    def test_places(self):
        self.reads("m[a]", ("at", "m", A))
        self.reads("m[m[a + b]]", ("at", "m", ("at", "m", two("+", A, B))))
        for text in ("m[]", "m[a", "m a]", "[a]", "m[a][b]", "(m)[a]", "m(a)", "m[a, b]", "m[a)", "5:8[a]", "cut(a, 0, 1)[a]"):
            self.refuses(text)

    def test_not(self):
        self.reads("~a", ("not", A))
        self.reads("~~a", ("not", ("not", A)))
        self.reads("~(~a)", ("not", ("not", A)))
        self.reads("~m[a]", ("not", ("at", "m", A)))
        self.reads("~u.s", ("not", ("of", "u", "s")))
        for text in ("~", "a~", "a ~ b", "~ + a", "~if a then b else c"):
            self.refuses(text)

    def test_each_sign(self):
        for sign in ("|", "^", "&", "==", "<", "+", "-"):
            self.reads(f"a {sign} b", two(sign, A, B))
            self.reads(f"a{sign}b", two(sign, A, B))
            for text in (f"a {sign}", f"{sign} a", f"a {sign} {sign} b", sign, f"a {sign} )"):
                self.refuses(text)
        for text in ("a = b", "a = = b", "a b", "a , b", "a . . b", "a > b", "a == = b"):
            self.refuses(text)

    def test_picks(self):
        self.reads("if a then b else c", ("pick", A, B, C))
        for text in ("if", "if a", "if a then", "if a then b", "if a then b else", "then b else c", "if then b else c",
                     "if a then else c", "if a b else c", "if a then b c", "if a else b then c", "a then b else c",
                     "if a then b else c else d", "if a then b then c else d"):
            self.refuses(text)

    def test_cuts(self):
        self.reads("cut(a, 3, 4)", ("cut", A, 3, ("", 4)))
        self.reads("cut(a, 0, w)", ("cut", A, 0, ("w", 0)))
        self.reads("cut(a, 63, (w - 1))", ("cut", A, 63, ("w", -1)))
        for text in ("cut(a, 64, 1)", "cut(a, 0, 0)", "cut(a, 0, 65)", "cut(a, 0)", "cut(a)", "cut()", "cut", "cut a, 0, 1",
                     "cut(a, 0, 1, 1)", "cut(a, w, 1)", "cut(a, -1, 1)", "cut(0, a, 1)", "cut(, 0, 1)", "cut(a 0 1)",
                     "cut[a, 0, 1]", "cut(a, 0, 1", "cut(a, 00, 1)", "cut(a, 0:1, 1)"):
            self.refuses(text)

    def test_joins(self):
        self.reads("join(a, b)", ("join", A, B))
        for text in ("join(a)", "join(a, b, c)", "join()", "join", "join(a b)", "join(a, )", "join(, b)", "join(a, 8)",
                     "join[a, b]", "join(a, b", "join a, b"):
            self.refuses(text)

    def test_fills(self):
        self.reads("fill(a, 16)", ("fill", A, ("", 16)))
        for text in ("fill(a)", "fill(a, b, 8)", "fill()", "fill", "fill(a, 8, 8)", "fill(8, a)", "fill(a, 8:8)", "fill(a 8)"):
            self.refuses(text)

    def test_other_told_words(self):
        for word in ("part", "in", "out", "wire", "rest", "let", "use", "table", "memory"):
            self.refuses(word)
            self.refuses(f"{word}(a, b)")
            self.refuses(f"a + {word}")


class TestBinding(Reading):
    LEVELS = (("|",), ("^",), ("&",), ("==", "<"), ("+", "-"))

    def test_what_binds_least_first(self):
        for low, signs in enumerate(self.LEVELS):
            for tight in self.LEVELS[low + 1:]:
                for one in signs:
                    for other in tight:
                        self.reads(f"a {one} b {other} c", two(one, A, two(other, B, C)))
                        self.reads(f"a {other} b {one} c", two(one, two(other, A, B), C))

    def test_from_the_left(self):
        for signs in (("|",), ("^",), ("&",), ("+", "-")):
            for one in signs:
                for other in signs:
                    self.reads(f"a {one} b {other} c", two(other, two(one, A, B), C))
                    self.reads(f"a {one} (b {other} c)", two(one, A, two(other, B, C)))
        self.reads("a - b + c - d", two("-", two("+", two("-", A, B), C), D))

    def test_likeness_and_order_never_side_by_side(self):
        for one in ("==", "<"):
            for other in ("==", "<"):
                self.refuses(f"a {one} b {other} c")
                self.refuses(f"a {one} b + c {other} d")
                self.refuses(f"a & b {one} c {other} d")
                self.reads(f"(a {one} b) {other} c", two(other, two(one, A, B), C))
                self.reads(f"a {one} (b {other} c)", two(one, A, two(other, B, C)))
                self.reads(f"a {one} b & c {other} d", two("&", two(one, A, B), two(other, C, D)))
                self.reads(f"a {one} b | c {other} d", two("|", two(one, A, B), two(other, C, D)))

    def test_not_binds_tightest(self):
        for sign in ("|", "^", "&", "==", "<", "+", "-"):
            self.reads(f"~a {sign} b", two(sign, ("not", A), B))
            self.reads(f"a {sign} ~b", two(sign, A, ("not", B)))
            self.reads(f"~(a {sign} b)", ("not", two(sign, A, B)))

    def test_all_at_once(self):
        self.reads(
            "a | b ^ c & d == a + ~b",
            two("|", A, two("^", B, two("&", C, two("==", D, two("+", A, ("not", B)))))),
        )
        self.reads(
            "~a + b == c & d ^ a | b",
            two("|", two("^", two("&", two("==", two("+", ("not", A), B), C), D), A), B),
        )

    def test_what_stands_behind_else_is_a_whole_term(self):
        self.reads("if a then b else c | d", ("pick", A, B, two("|", C, D)))
        self.reads("if a | b then c | d else a", ("pick", two("|", A, B), two("|", C, D), A))
        self.reads("(if a then b else c) | d", two("|", ("pick", A, B, C), D))


class TestIfs(Reading):
    IF = ("pick", A, B, C)
    TEXT = "if a then b else c"

    def test_where_a_whole_term_stands(self):
        self.reads(f"if {self.TEXT} then b else c", ("pick", self.IF, B, C))
        self.reads(f"if a then {self.TEXT} else c", ("pick", A, self.IF, C))
        self.reads(f"if a then b else {self.TEXT}", ("pick", A, B, self.IF))
        self.reads(f"m[{self.TEXT}]", ("at", "m", self.IF))
        self.reads(f"cut({self.TEXT}, 0, 1)", ("cut", self.IF, 0, ("", 1)))
        self.reads(f"join({self.TEXT}, {self.TEXT})", ("join", self.IF, self.IF))
        self.reads(f"fill({self.TEXT}, 8)", ("fill", self.IF, ("", 8)))
        self.reads(f"({self.TEXT})", self.IF)

    def test_an_else_belongs_to_the_last_open_if(self):
        self.reads(
            "if if a then b else c then if a then b else c else if a then b else c",
            ("pick", self.IF, self.IF, self.IF),
        )

    def test_else_in_brackets_alone(self):
        for sign in ("|", "^", "&", "==", "<", "+", "-"):
            self.refuses(f"a {sign} {self.TEXT}")
            self.reads(f"a {sign} ({self.TEXT})", two(sign, A, self.IF))
            self.reads(f"({self.TEXT}) {sign} a", two(sign, self.IF, A))
            self.reads(f"{self.TEXT} {sign} a", ("pick", A, B, two(sign, C, A)))
        self.refuses(f"~{self.TEXT}")
        self.reads(f"~({self.TEXT})", ("not", self.IF))


class TestBrackets(Reading):
    def test_needless_ones(self):
        self.reads("(a)", A)
        self.reads("((a))", A)
        self.reads("((a) + (b))", two("+", A, B))
        self.reads("m[(a)]", ("at", "m", A))
        self.reads("(u.s)", ("of", "u", "s"))
        self.reads("cut((a), 0, 8)", ("cut", A, 0, ("", 8)))
        self.reads("(if (a) then (b) else (c))", ("pick", A, B, C))

    def test_unlike_ones(self):
        for text in ("(a", "a)", "((a)", "(a))", "()", ")(", "(a]", "[a)", "m[(a])", "(a, b)", "cut((a, 0, 8)", "( )"):
            self.refuses(text)

    def test_ten_open(self):
        self.reads("(" * 10 + "a" + ")" * 10, A)
        self.refuses("(" * 11 + "a" + ")" * 11)
        self.refuses("(" * 11 + "a" + ")" * 10)

    def test_ten_open_behind_others(self):
        ten = "(" * 10 + "a" + ")" * 10
        self.reads(f"{ten} + {ten} + {ten}", two("+", two("+", A, A), A))
        self.refuses(f"{ten} + ({ten})")
        self.reads("(a) + " + ten, two("+", A, A))

    def test_those_of_calls_and_places_too(self):
        for head, tail, kind in (("cut(", ", 0, 8)", "cut"), ("fill(", ", 8)", "fill"), ("join(a, ", ")", "join"),
                                 ("m[", "]", "at")):
            term = term_in(head * 9 + "a" + tail * 9)
            self.assertEqual((term[0], depth(term)), (kind, 10))
            self.assertEqual(term_in(head * 9 + "(a)" + tail * 9), term)
            self.assertEqual(term_in("(" + head * 9 + "a" + tail * 9 + ")"), term)
            self.refuses(head * 9 + "((a))" + tail * 9)
            self.refuses("(" + head * 9 + "(a)" + tail * 9 + ")")
            term = term_in("(" * 9 + head + "a" + tail + ")" * 9)
            self.assertEqual(depth(term), 2)
            self.refuses("(" * 10 + head + "a" + tail + ")" * 10)
        self.refuses("(" * 10 + "join(a, b)" + ")" * 10)

    def test_those_of_widths_not(self):
        self.reads("(" * 10 + "1:(w + 1)" + ")" * 10, ("number", 1, ("w", 1)))
        self.reads("(" * 9 + "fill(a, (w + 1))" + ")" * 9, ("fill", A, ("w", 1)))
        self.reads("(" * 9 + "cut(a, 0, (w - 1))" + ")" * 9, ("cut", A, 0, ("w", -1)))


class TestBounds(Reading):
    def test_ten_deep(self):
        for head, tail in (("~", ""), ("m[", "]"), ("cut(", ", 0, 8)"), ("fill(", ", 8)"), ("join(", ", a)"),
                           ("join(a, ", ")"), ("if ", " then a else a"), ("if a then ", " else a"),
                           ("if a then a else ", ""), ("", " + a"), ("", " | a"), ("a + (", ")"), ("a == (", ")")):
            term = term_in(head * 9 + "a" + tail * 9)
            self.assertEqual(depth(term), 10, head)
            self.refuses(head * 10 + "a" + tail * 10)
            self.refuses(head * 11 + "a" + tail * 11)

    def test_a_leaf_is_one_deep(self):
        for leaf in ("a", "u.s", "99:8", "99:(w + 1)"):
            self.assertEqual(depth(term_in("~" * 9 + leaf)), 10)
            self.refuses("~" * 10 + leaf)

    def test_depth_counts_on_each_side(self):
        nine = "~" * 8 + "a"
        self.assertEqual(depth(term_in(f"a + {nine}")), 10)
        self.assertEqual(depth(term_in(f"{nine} + a")), 10)
        self.refuses(f"a + ~{nine}")
        self.refuses(f"~{nine} + a")
        self.refuses(f"if a then a else ~{nine}")
        self.refuses(f"m[~{nine}]")

    def test_forty_trees(self):
        self.assertEqual(trees(term_in(balanced(20))), 39)
        self.assertEqual(trees(term_in("~" + balanced(20))), 40)
        self.refuses("~~" + balanced(20))
        self.refuses(balanced(21))
        self.assertEqual(trees(term_in("m[" + balanced(20) + "]")), 40)
        self.refuses("m[" + balanced(20) + " + a]")

    def test_each_kind_is_a_tree(self):
        whole = balanced(19)
        self.assertEqual(trees(term_in(whole)), 37)
        for text in ("~" + whole, "fill(" + whole + ", 8)", "cut(" + whole + ", 0, 8)", "m[" + whole + "]"):
            self.assertEqual(trees(term_in("~~" + text)), 40)
            self.refuses("~~~" + text)
        self.assertEqual(trees(term_in(f"if {whole} then a else a")), 40)
        self.refuses(f"~(if {whole} then a else a)")
        self.refuses(f"if {whole} then ~a else a")
        self.assertEqual(trees(term_in(f"~join({whole}, a)")), 40)
        self.refuses(f"~~join({whole}, a)")
        self.assertEqual(trees(term_in(f"~({whole} + u.s)")), 40)
        self.assertEqual(trees(term_in(f"~({whole} + 1:8)")), 40)

    def test_many_ifs_beside_one_another(self):
        inner = "(if a then b else c)"
        middle = f"(if {inner} then {inner} else {inner})"
        term = term_in(f"if {middle} then {middle} else {middle}")
        self.assertEqual((trees(term), depth(term)), (40, 4))
        self.refuses(f"if {middle} then {middle} else ~{middle}")

    def test_brackets_are_no_trees(self):
        self.assertEqual(trees(term_in("~(((" + balanced(20) + ")))")), 40)

    def test_turns_side_by_side(self):
        self.reads("~" * 3 + "a", ("not", ("not", ("not", A))))
        for many in (10, 11, 12, 100):
            self.refuses("~" * many + "a")
            self.refuses("~ " * many + "a")

    def test_long_texts_are_refused_and_nothing_else(self):
        for text in ("(" * 8000, "~" * 7999 + "a", "if " * 2600 + "a", "m[" * 4000, "a+" * 3999 + "a", "cut(" * 2000,
                     "if a then b else " * 450 + "a", "if a then " * 700 + "a", "join(a," * 1000, "a=" * 4000,
                     "a " * 4000, "a|" * 3999 + "a", "(" * 4000 + ")" * 4000, "fill(" * 1600, "~(" * 4000,
                     "if (" * 2000, "a==" * 2600 + "a", "." * 8000, "a." * 4000, "1:" * 4000):
            self.assertLessEqual(len(text), 8000)
            self.refuses(text)


class TestTermIn(Reading):
    def test_blanks(self):
        self.reads("   a+b ", two("+", A, B))
        self.reads(" cut ( a , 0 , 8 ) ", ("cut", A, 0, ("", 8)))
        self.reads("cut(a,0,8)", ("cut", A, 0, ("", 8)))
        self.reads("if(a)then(b)else(c)", ("pick", A, B, C))
        self.refuses("ifa then b else c")
        self.refuses("cut(a,0,8) b")

    def test_remarks(self):
        self.reads("a # b", A)
        self.reads("a#", A)
        self.reads("a + b # ! $ ?", two("+", A, B))
        self.reads("a # b\nc", A)
        self.reads("a #\n\n", A)
        self.refuses("a + # b")

    def test_no_words(self):
        for text in ("", " ", "    ", "#", "# a", "   # a + b"):
            self.refuses(text)

    def test_line_ends(self):
        for text in ("\n", "a\n", "\na", "a\n+ b", "a\n# b", "a + b\n"):
            self.refuses(text)

    def test_no_words_of_a_row(self):
        for text in ("a ! b", "a + $", "A", "a + 00:8", "abcdefghi", "a_b"):
            self.refuses(text)

    def test_no_text(self):
        for thing in (None, True, False, 0, 5, b"a", ["a"], ("name", "a"), {}, {"a": 1}, object(), [], ()):
            self.refuses(thing, None)

    def test_too_many_signs(self):
        self.reads("a" + " " * 7999, A)
        self.reads("a#" + "x" * 7998, A)
        self.refuses("a" + " " * 8000, None)
        self.refuses("a#" + "x" * 7999, None)
        self.refuses(" " * 8001, None)
        self.refuses(" " * 8000, 0)
        self.refuses("\n" * 8000, 0)
        self.refuses("\n" * 8001, None)

    def test_kinds_of_values(self):
        for text in ("a", "1:8", "u.s", "m[a]", "~a", "a + b", "if a then b else c", "cut(a, 0, 8)", "join(a, b)", "fill(a, 8)"):
            self.assertIs(type(term_in(text)), tuple)
        number = term_in("1:8")
        self.assertEqual([type(thing) for thing in number], [str, int, tuple])

    def test_what_is_refused_changes_nothing(self):
        for _ in range(2):
            self.refuses("~~" + balanced(20))
            self.reads("~a", ("not", A))
            self.refuses("((((((((((((a")
            self.reads("((((((((((a))))))))))", A)

    def test_place(self):
        self.assertEqual(term_in.__module__, "wireyard.reading")


if __name__ == "__main__":
    unittest.main()
