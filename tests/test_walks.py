import unittest

from making import kids, some_terms
from wireyard.reading import read, term_in
from wireyard.walks import kids_of, made_parts, names_told, row_terms, row_widths, widths_in

A, B, C = ("name", "a"), ("name", "b"), ("name", "c")

NESTED = """\
part leaf w v
  in a w
  out s v
part twig w
  in a w
  use p leaf(w, (w + 1)): a
  wire x w
  use q leaf((w - 1), 3): a
part bough
  in a 8
  use t twig(4): a
  out s 8
part main
  use u bough: a
  use z leaf(1, 2): a
  in a 8
  use v twig(9): a
"""


class TestKidsOf(unittest.TestCase):
    def test_none(self):
        for term in (A, ("number", 1, ("", 8)), ("number", 1, ("w", 1)), ("of", "u", "s")):
            self.assertEqual(kids_of(term), [])

    def test_one(self):
        for text in ("m[a]", "~a", "cut(a, 0, 8)", "cut(a, 0, (w + 1))", "fill(a, 8)", "fill(a, w)"):
            self.assertEqual(kids_of(term_in(text)), [A], text)

    def test_two_from_the_left(self):
        for text in ("a | b", "a ^ b", "a & b", "a == b", "a < b", "a + b", "a - b", "join(a, b)"):
            self.assertEqual(kids_of(term_in(text)), [A, B], text)

    def test_three_from_the_left(self):
        self.assertEqual(kids_of(term_in("if a then b else c")), [A, B, C])

    def test_those_right_within_alone(self):
        self.assertEqual(kids_of(term_in("~m[a + b]")), [("at", "m", ("two", "+", A, B))])
        self.assertEqual(kids_of(term_in("a + b + c")), [("two", "+", A, B), C])

    def test_many_terms(self):
        for term in some_terms(500, 3):
            self.assertEqual(kids_of(term), kids(term))
            self.assertIs(type(kids_of(term)), list)

    def test_what_was_told_is_the_askers_own(self):
        term = term_in("a + b")
        told = kids_of(term)
        told.append(C)
        told[0] = C
        self.assertEqual(kids_of(term), [A, B])
        self.assertEqual(term, ("two", "+", A, B))
        leaf = kids_of(A)
        leaf.append(B)
        self.assertEqual(kids_of(A), [])


class TestWidthsIn(unittest.TestCase):
    def part(self, head, *rows):
        return read("\n".join([head, *rows]))[0]

    def test_rows_of_all_kinds(self):
        part = self.part(
            "part p w v", "in a w", "let s = a", "out s (w + 1)", "use u p(1, 2): a", "wire x (v - 2)", "rest r 8 0 = a",
            "table t v: 1, 2", "memory m (v + 64) 4: a, b, c",
        )
        told = widths_in(part, (5, 7))
        self.assertEqual(told, {"a": 5, "s": 6, "x": 5, "r": 8, "t": 7, "m": 71})
        self.assertEqual(list(told), ["a", "s", "x", "r", "t", "m"])
        self.assertEqual(widths_in(part, (64, 3)), {"a": 64, "s": 65, "x": 1, "r": 8, "t": 3, "m": 67})

    def test_no_params(self):
        self.assertEqual(widths_in(self.part("part p", "in a 8", "out b 64"), ()), {"a": 8, "b": 64})

    def test_a_name_of_a_row_may_be_a_params_too(self):
        self.assertEqual(widths_in(self.part("part p w", "in w (w + 1)", "in a w"), (8,)), {"w": 9, "a": 8})

    def test_lets_and_uses_tell_none(self):
        self.assertEqual(widths_in(self.part("part p", "let a = b", "use u p: a"), ()), {})

    def test_three_params(self):
        part = self.part("part p w v k", "in a k", "in b v", "in c w")
        self.assertEqual(list(widths_in(part, (1, 2, 3)).items()), [("a", 3), ("b", 2), ("c", 1)])

    def test_what_was_told_is_the_askers_own(self):
        part = self.part("part p w", "in a w", "out b 8")
        told = widths_in(part, (5,))
        told["a"] = 9
        told["z"] = 1
        del told["b"]
        self.assertEqual(widths_in(part, (5,)), {"a": 5, "b": 8})
        self.assertEqual(part, self.part("part p w", "in a w", "out b 8"))


class TestRows(unittest.TestCase):
    ROWS = (
        ("in n w", [("w", 0)], []), ("out n 8", [("", 8)], []), ("wire n (w + 1)", [("w", 1)], []), ("rest n 8 0 = a", [("", 8)], [A]),
        ("let n = a", [], [A]), ("use n q(8, w): a, b", [("", 8), ("w", 0)], [A, B]), ("use n q", [], []),
        ("table n 8: 1, 2", [("", 8)], []), ("memory n w 4: a, b, c", [("w", 0)], [A, B, C]),
    )

    def test_widths_and_terms(self):
        for text, widths, terms in self.ROWS:
            row = read("part p w\n" + text)[0][2][0]
            self.assertEqual((row_widths(row), row_terms(row)), (widths, terms), text)

    def test_names_told(self):
        part = read("part p\nin a 8\nout b 8\ntable t 8: 1\nin c 8\nlet b = a\nuse u q: a\nin d 8")[0]
        self.assertEqual(names_told(part, "in"), ["a", "c", "d"])
        self.assertEqual(names_told(part, "out"), ["b"])
        self.assertEqual(names_told(part, "table"), ["t"])
        self.assertEqual(names_told(part, "use"), ["u"])
        self.assertEqual(names_told(part, "wire"), [])


class TestMadeParts(unittest.TestCase):
    def test_the_main_part_alone(self):
        self.assertEqual(made_parts(read("part p\nin a 8")), (("", "p", ()),))

    def test_parts_that_nothing_uses_are_not_made(self):
        self.assertEqual(made_parts(read("part q w\nin a w\npart p\nin a 8")), (("", "p", ()),))

    def test_uses_within_uses_in_order(self):
        self.assertEqual(made_parts(read(NESTED)), (
            ("", "main", ()),
            ("u.", "bough", ()),
            ("u.t.", "twig", (4,)),
            ("u.t.p.", "leaf", (4, 5)),
            ("u.t.q.", "leaf", (3, 3)),
            ("z.", "leaf", (1, 2)),
            ("v.", "twig", (9,)),
            ("v.p.", "leaf", (9, 10)),
            ("v.q.", "leaf", (8, 3)),
        ))

    def test_numbers_come_from_the_part_that_uses(self):
        text = "part c w v\nin a w\npart b v w\nin a w\nuse u c((v + 1), w): a\npart a\nin a 8\nuse u b(3, 4): a"
        self.assertEqual(made_parts(read(text)), (("", "a", ()), ("u.", "b", (3, 4)), ("u.u.", "c", (4, 4))))

    def test_kinds_of_values(self):
        told = made_parts(read(NESTED))
        self.assertIs(type(told), tuple)
        for made in told:
            self.assertEqual([type(thing) for thing in made], [str, str, tuple])
        self.assertEqual(made_parts(read(NESTED)), told)

    def test_place(self):
        for thing in (kids_of, widths_in, made_parts):
            self.assertEqual(thing.__module__, "wireyard.walks")


if __name__ == "__main__":
    unittest.main()
