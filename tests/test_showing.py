import re
import unittest

from making import depth, some_terms, some_yards, trees
from wireyard.errors import BadText
from wireyard.reading import read, term_in
from wireyard.showing import shown, term_text

A, B, C = ("name", "a"), ("name", "b"), ("name", "c")
IF = ("pick", A, B, C)
SIGNS = ("|", "^", "&", "==", "<", "+", "-")
LEVELS = {"|": 1, "^": 2, "&": 3, "==": 4, "<": 4, "+": 5, "-": 5}


def two(sign, one, other):
    return ("two", sign, one, other)


def pairs_of(text):
    """The places of brackets that hold a term alone, and of their ends."""
    waiting, found = [], []
    for at, sign in enumerate(text):
        if sign == "(":
            waiting.append(at)
        if sign == ")":
            start = waiting.pop()
            if not re.search(r"(cut|join|fill)$", text[:start]):
                found.append((start, at))
    return found


class TestTerms(unittest.TestCase):
    def shows(self, term, text):
        self.assertEqual(term_text(term), text)
        self.assertEqual(term_in(text), term)

    def test_each_kind(self):
        self.shows(("number", 5, ("", 8)), "5:8")
        self.shows(("number", 0, ("w", 0)), "0:w")
        self.shows(("number", 10 ** 20 - 1, ("w", 1)), "99999999999999999999:(w + 1)")
        self.shows(("number", 5, ("w", -64)), "5:(w - 64)")
        self.shows(A, "a")
        self.shows(("of", "u", "s"), "u.s")
        self.shows(("at", "m", A), "m[a]")
        self.shows(("not", A), "~a")
        self.shows(IF, "if a then b else c")
        self.shows(("cut", A, 3, ("", 4)), "cut(a, 3, 4)")
        self.shows(("cut", A, 0, ("w", -1)), "cut(a, 0, (w - 1))")
        self.shows(("join", A, B), "join(a, b)")
        self.shows(("fill", A, ("w", 1)), "fill(a, (w + 1))")
        for sign in SIGNS:
            self.shows(two(sign, A, B), f"a {sign} b")

    def test_blanks_are_as_they_are_shown(self):
        self.shows(term_in("m[ ~ ( a+u . s ) ]&cut( join(a,b) ,0,( w-1 ) )"), "m[~(a + u.s)] & cut(join(a, b), 0, (w - 1))")
        self.shows(term_in("((a)) | (1 : (w+1))"), "a | 1:(w + 1)")
        self.shows(term_in("a+(b+(c))"), "a + (b + c)")
        self.shows(term_in("((a + b)) == ~(c)"), "a + b == ~c")

    def test_sides_of_signs(self):
        for one in SIGNS:
            for other in SIGNS:
                left, right = two(other, A, B), two(other, B, C)
                lower = LEVELS[other] < LEVELS[one]
                alike = LEVELS[other] == LEVELS[one]
                if lower or (alike and one in ("==", "<")):
                    self.shows(two(one, left, C), f"(a {other} b) {one} c")
                else:
                    self.shows(two(one, left, C), f"a {other} b {one} c")
                if lower or alike:
                    self.shows(two(one, A, right), f"a {one} (b {other} c)")
                else:
                    self.shows(two(one, A, right), f"a {one} b {other} c")

    def test_sides_that_are_nots_or_held_together(self):
        for sign in SIGNS:
            self.shows(two(sign, ("not", A), ("not", B)), f"~a {sign} ~b")
            self.shows(two(sign, ("cut", A, 0, ("", 8)), ("join", A, B)), f"cut(a, 0, 8) {sign} join(a, b)")
            self.shows(two(sign, ("at", "m", A), ("number", 1, ("w", 1))), f"m[a] {sign} 1:(w + 1)")

    def test_nots(self):
        self.shows(("not", ("not", A)), "~~a")
        self.shows(("not", IF), "~(if a then b else c)")
        self.shows(("not", ("at", "m", A)), "~m[a]")
        self.shows(("not", ("of", "u", "s")), "~u.s")
        self.shows(("not", ("number", 1, ("", 8))), "~1:8")
        for sign in SIGNS:
            self.shows(("not", two(sign, A, B)), f"~(a {sign} b)")

    def test_ifs(self):
        self.shows(("pick", IF, B, C), "if (if a then b else c) then b else c")
        self.shows(("pick", A, IF, C), "if a then (if a then b else c) else c")
        self.shows(("pick", A, B, IF), "if a then b else if a then b else c")
        self.shows(("pick", IF, IF, IF), f"if ({term_text(IF)}) then ({term_text(IF)}) else {term_text(IF)}")
        for sign in SIGNS:
            self.shows(two(sign, IF, A), f"(if a then b else c) {sign} a")
            self.shows(two(sign, A, IF), f"a {sign} (if a then b else c)")
            self.shows(("pick", two(sign, A, B), two(sign, A, B), two(sign, A, B)),
                       f"if a {sign} b then a {sign} b else a {sign} b")
        self.shows(("pick", two("|", IF, A), B, C), "if (if a then b else c) | a then b else c")

    def test_whole_terms_have_no_brackets(self):
        for inner in (IF, two("|", A, B), ("not", A), A):
            text = term_text(inner)
            self.shows(("at", "m", inner), f"m[{text}]")
            self.shows(("cut", inner, 0, ("", 8)), f"cut({text}, 0, 8)")
            self.shows(("join", inner, inner), f"join({text}, {text})")
            self.shows(("fill", inner, ("", 8)), f"fill({text}, 8)")
            self.shows(("pick", A, B, inner), f"if a then b else {text}")

    def test_brackets_that_were_needless_are_left_out(self):
        self.assertEqual(term_text(term_in("((a + b) + c)")), "a + b + c")
        self.assertEqual(term_text(term_in("(a & b) | (c)")), "a & b | c")
        self.assertEqual(term_text(term_in("m[(if (a) then (b) else (c))]")), "m[if a then b else c]")
        self.assertEqual(term_text(term_in("if if a then b else c then a else b")), "if (if a then b else c) then a else b")

    def test_the_deepest(self):
        for term in (A, ("of", "u", "s"), ("number", 1, ("w", 1))):
            for _ in range(9):
                term = ("not", term)
            self.assertEqual(term_in(term_text(term)), term)
        term = A
        for _ in range(9):
            term = two("==", term, B)
        self.shows(term, "((((((((a == b) == b) == b) == b) == b) == b) == b) == b) == b")

    def test_many_terms(self):
        for term in some_terms(3000, 7):
            self.assertLessEqual(depth(term), 10)
            self.assertLessEqual(trees(term), 40)
            text = term_text(term)
            self.assertEqual(term_in(text), term)
            self.assertEqual(term_text(term_in(text)), text)

    def test_no_brackets_can_be_left_out(self):
        left_out = 0
        for term in some_terms(600, 8):
            text = term_text(term)
            for start, end in pairs_of(text):
                if text[start + 1:].startswith("if ") and re.search(r"\b(if|then) $", text[:start]):
                    continue
                left_out += 1
                less = text[:start] + " " + text[start + 1:end] + " " + text[end + 1:]
                try:
                    self.assertNotEqual(term_in(less), term, text)
                except BadText:
                    pass
        self.assertGreater(left_out, 300)

    def test_blanks_in_many_terms(self):
        for term in some_terms(1000, 9):
            text = term_text(term)
            self.assertIsNone(re.search(r"  |[(\[~.] | [)\],:.\[]|(cut|join|fill) \(|: |^ | $", text), text)
            self.assertIsNone(re.search(r"[^ ](==|[|^&<+-])|(==|[|^&<+-])[^ ]", re.sub("==", "<", text)), text)


class TestYards(unittest.TestCase):
    TEXT = "\n".join((
        "part adder w v2",
        "  in a w",
        "  in b (w + 1)",
        "  out s (v2 - 64)",
        "  wire x 8",
        "  rest r (w + 1) 99999999999999999999 = if a then b else c",
        "  let s = a + (b + c)",
        "part main",
        "  use u adder(8, (w - 1), w): a, b + 1:8",
        "  use v adder: ~a",
        "  use x adder((w + 1))",
        "  use y adder",
        "  table t (w + 1): 1, 2, 3",
        "  table t2 8: 0",
        "  memory m 8 32: a, if a then b else c, (a | b) & c",
    ))

    def test_each_row(self):
        yard = read(self.TEXT)
        self.assertEqual(shown(yard), self.TEXT)
        self.assertEqual([len(part[2]) for part in yard], [6, 7])

    def test_the_same_however_it_was_written(self):
        wild = "\n\n" + self.TEXT.replace(" (", "(").replace(", ", " ,") + " # x\n"
        self.assertEqual(read(wild), read(self.TEXT))
        self.assertEqual(shown(read(wild)), self.TEXT)

    def test_rows_handed_in(self):
        rows = (("in", "a", ("", 8)), ("let", "s", A))
        self.assertEqual(shown((("p", (), rows),)), "part p\n  in a 8\n  let s = a")
        self.assertEqual(shown((("p", ("w",), rows), ("q", ("w", "v", "k"), rows[:1]))),
                         "part p w\n  in a 8\n  let s = a\npart q w v k\n  in a 8")

    def test_line_ends(self):
        text = shown((("p", (), (("in", "a", ("", 8)),)),) * 2)
        self.assertEqual(text, "part p\n  in a 8\npart p\n  in a 8")
        self.assertFalse(text.endswith("\n"))

    def test_many_yards(self):
        short = 0
        for yard in some_yards(400, 11):
            text = shown(yard)
            if len(text) <= 8000:
                short += 1
                self.assertEqual(read(text), yard)
                self.assertEqual(shown(read(text)), text)
        self.assertGreater(short, 300)

    def test_rows_hold_the_texts_of_their_terms(self):
        for term in some_terms(300, 12):
            text = term_text(term)
            yard = (("p", (), (("let", "s", term), ("rest", "r", ("", 8), 0, term), ("use", "u", "p", (), (term, A)),
                               ("memory", "m", ("", 8), 1, term, term, A))),)
            self.assertEqual(shown(yard), "\n".join((
                "part p", f"  let s = {text}", f"  rest r 8 0 = {text}", f"  use u p: {text}, a",
                f"  memory m 8 1: {text}, {text}, a",
            )))

    def test_place(self):
        self.assertEqual((shown.__module__, term_text.__module__), ("wireyard.showing", "wireyard.showing"))


if __name__ == "__main__":
    unittest.main()
