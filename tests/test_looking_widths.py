import unittest

from refusing import Looking, refusal
from sound import sound_yards
from wireyard.errors import BadWidth, Ring, YardError
from wireyard.looking import looked
from wireyard.reading import read


class TestWidthsThatAreNone(Looking):
    def row(self, row, width):
        """A yard in which one row has a width of a yard, which no text could tell."""
        one = ("number", 1, ("", 1))
        rows = {
            "in": ("in", "n", width), "out": ("out", "n", width), "wire": ("wire", "n", width),
            "rest": ("rest", "n", width, 0, ("name", "n")), "table": ("table", "n", width, (0,)),
            "memory": ("memory", "n", width, 4, one, ("at", "n", one), one),
            "number": ("use", "u", "q", (), (one, ("two", "==", ("number", 0, width), ("number", 0, width)))),
            "cut": ("use", "u", "q", (), (one, ("two", "==", ("cut", ("name", "n"), 0, width), ("name", "n")))),
            "fill": ("use", "u", "q", (), (one, ("two", "==", ("fill", one, width), ("fill", one, width)))),
            "use": ("use", "u", "r", (width,), ()),
        }
        return rows[row]

    def yard(self, row, width, param=None):
        q = ("q", (), (("in", "a", ("", 1)), ("in", "b", ("", 1))))
        r = ("r", ("w",), (("table", "t", ("", 1), (0,)),))
        rows = (("table", "t", ("", 8), (0,)), self.row(row, width))
        if row in ("out", "wire"):
            rows += (("let", "n", ("name", "n")),)
        if row == "cut":
            rows += (("in", "n", width),)
        if param is None:
            return (q, r, ("p", (), rows))
        if row in ("in", "cut"):
            main = (("in", "x", ("", param + width[1])), ("use", "u", "p", (("", param),), (("name", "x"),)))
        else:
            main = (("use", "u", "p", (("", param),), ()),)
        return (q, r, ("p", ("w",), rows), ("main", (), main))

    KINDS = ("in", "out", "wire", "rest", "table", "memory", "number", "cut", "fill", "use")

    def test_of_each_kind_of_row_and_term(self):
        for kind in self.KINDS:
            name = "u" if kind in ("number", "cut", "fill", "use") else "n"
            for width in (1, 2, 8, 63, 64):
                told = refusal(self.yard(kind, ("", width)))
                self.assertTrue(told is None or told[0] is Ring, (kind, width, told))
            for width in (0, -1, -64, 65, 66, 128, 2 ** 70):
                self.refuses_yard(BadWidth, "p", 1, name, self.yard(kind, ("", width)))

    def test_by_params(self):
        for kind in self.KINDS:
            name = "u" if kind in ("number", "cut", "fill", "use") else "n"
            for param, more in ((1, 0), (8, -7), (64, 0), (63, 1), (1, 63), (64, -63)):
                told = refusal(self.yard(kind, ("w", more), param))
                self.assertTrue(told is None or told[0] is Ring, (kind, param, more, told))
            for param, more in ((8, -8), (1, -1), (64, -64), (1, -2), (8, -64), (64, 1), (63, 2), (1, 64), (64, 64)):
                yard = self.yard(kind, ("w", more), param)
                if kind in ("in", "cut"):
                    self.refuses_yard(BadWidth, "main", 0, "x", yard)
                else:
                    self.refuses_yard(BadWidth, "p", 1, name, yard)

    def test_of_a_use_of_no_other_meaning(self):
        # No row of the used part has this width: the use itself has.
        q = ("part q w", "table t 1: 0", "part r v", "table t 1: 0", "use u q((v {}))", "part p")
        head = [line.format("+ 1") for line in q]
        self.lets_by(*head, "use a r(63)")
        self.refuses(BadWidth, "r", 1, "u", *head, "use a r(64)")
        head = [line.format("- 8") for line in q]
        self.lets_by(*head, "use a r(9)")
        self.refuses(BadWidth, "r", 1, "u", *head, "use a r(8)")
        self.refuses(BadWidth, "r", 1, "u", *head, "use a r(7)")

    def test_each_of_a_uses_widths(self):
        parts = (("q", ("a", "b", "c"), (("table", "t", ("", 1), (0,)),)),)
        for at in range(3):
            for bad in (0, 65):
                widths = [("", 1), ("", 64), ("", 8)]
                widths[at] = ("", bad)
                yard = (*parts, ("p", (), (("use", "u", "q", tuple(widths), ()),)))
                self.refuses_yard(BadWidth, "p", 0, "u", yard)

    def test_a_name_of_such_a_width_is_refused_at_its_own_row(self):
        # Side by side they are alike, and so they are refused where they are told.
        yard = (("p", (), (("let", "a", ("name", "b")), ("out", "a", ("", 65)), ("in", "b", ("", 65)))),)
        self.refuses_yard(BadWidth, "p", 1, "a", yard)
        yard = (("p", (), (("let", "a", ("not", ("two", "+", ("name", "b"), ("name", "b")))), ("in", "b", ("", 0)),
                           ("out", "a", ("", 0)))),)
        self.refuses_yard(BadWidth, "p", 1, "b", yard)

    def test_a_fill_of_such_a_name(self):
        # A fill of a name of no bits is not narrower than its term, so that the name's own row is refused.
        for width in (0, -8):
            yard = (("p", (), (("let", "a", ("fill", ("name", "b"), ("", 8))), ("out", "a", ("", 8)), ("in", "b", ("", width)))),)
            self.refuses_yard(BadWidth, "p", 2, "b", yard)

    def test_a_cut_of_such_a_name(self):
        yard = (("p", (), (("let", "a", ("cut", ("name", "b"), 0, ("", 8))), ("out", "a", ("", 8)), ("in", "b", ("", 70)))),)
        self.refuses_yard(BadWidth, "p", 2, "b", yard)


class Terms(Looking):
    """Terms in a let of an out of a width, in a part with names of some widths."""

    ROWS = ("part q v", "in i v", "out s v", "let s = i", "part p w", "in a w", "in b (w + 1)", "in c 1", "in d 8",
            "rest r w 0 = a", "use u q((w + 2)): fill(a, (w + 2))", "table t 8: 1, 2, 255", "memory m w 4: d, a, c")

    def text(self, w, term, width):
        return [*self.ROWS, f"out o {width}", f"let o = {term}", "part main", "in a 8", "in c 1", "in x 64",
                f"use p p({w}): cut(x, 0, {w}), cut(x, 0, {w + 1}), c, a"]

    def fits(self, term, width="8", w=8):
        self.lets_by(*self.text(w, term, width))

    def fails(self, term, width="8", w=8):
        self.refuses(BadWidth, "p", 9, "o", *self.text(w, term, width))


class TestTermsThatFit(Terms):
    def test_names_doors_and_stores(self):
        for term, width in (("a", 8), ("b", 9), ("c", 1), ("d", 8), ("r", 8), ("u.s", 10), ("t[d]", 8), ("m[d]", 8)):
            self.fits(term, width)
            for other in (width - 1, width + 1, 16, 64):
                if other > 0:
                    self.fails(term, other)
        for term, width in (("a", "w"), ("b", "(w + 1)"), ("r", "w"), ("u.s", "(w + 2)"), ("m[d]", "w")):
            for w in (1, 5, 62):
                self.fits(term, width, w)
                self.fails(term, "(w + 3)" if w < 60 else "(w - 3)", w)
        self.fits("a", "8", 8)
        self.fails("a", "8", 7)

    def test_places_of_all_widths(self):
        for place in ("a", "b", "c", "d", "u.s", "1:64", "0:1", "m[t[c]]"):
            self.fits(f"t[{place}]")
            self.fits(f"m[{place}]", "w")
            self.fails(f"t[{place}]", 9)

    def test_numbers(self):
        for width in (1, 2, 8, 63, 64):
            for number in (0, 1, 2 ** width - 1):
                self.fits(f"{number}:{width}", width)
            for number in (2 ** width, 2 ** width + 1, 10 ** 20 - 1):
                self.fails(f"{number}:{width}", width)
        for w in (1, 5, 62):
            self.fits(f"{2 ** w - 1}:w", "w", w)
            self.fails(f"{2 ** w}:w", "w", w)
            self.fits(f"{2 ** (w + 1) - 1}:(w + 1)", "(w + 1)", w)
            self.fails(f"{2 ** (w + 1)}:(w + 1)", "(w + 1)", w)

    def test_numbers_of_more_figures(self):
        yard = (("p", (), (("out", "o", ("", 64)), ("let", "o", ("number", 10 ** 30, ("", 64))))),)
        self.refuses_yard(BadWidth, "p", 1, "o", yard)

    def test_signs(self):
        for sign in ("&", "|", "^", "+", "-"):
            self.fits(f"a {sign} d")
            self.fits(f"c {sign} c", 1)
            self.fits(f"b {sign} b", "(w + 1)", 3)
            self.fails(f"a {sign} d", 1)
            self.fails(f"a {sign} b")
            self.fails(f"b {sign} a")
            self.fails(f"a {sign} d", w=7)
            self.fails(f"(a {sign} b) {sign} d")
        for sign in ("==", "<"):
            self.fits(f"a {sign} d", 1)
            self.fits(f"(a {sign} d) {sign} c", 1)
            self.fails(f"a {sign} d", 8)
            self.fails(f"a {sign} b", 1)
            self.fails(f"b {sign} a", 1)
            self.fails(f"(a {sign} d) {sign} d", 1)

    def test_nots(self):
        self.fits("~a")
        self.fits("~~b", "(w + 1)", 62)
        self.fails("~a", 9)
        self.fails("~(a + b)")

    def test_picks(self):
        self.fits("if c then a else d")
        self.fits("if c then c else c", 1)
        self.fits("if a == d then if c then a else d else a")
        self.fails("if a then a else d")
        self.fails("if b then a else d", w=1)
        self.fits("if a then d else d", w=1)
        self.fails("if c then a else b")
        self.fails("if c then b else a")
        self.fails("if c then b else b")
        self.fails("if c then c else a", 1)

    def test_cuts(self):
        for low, many in ((0, 8), (0, 1), (7, 1), (1, 7), (4, 4)):
            self.fits(f"cut(a, {low}, {many})", many)
        for low, many in ((0, 9), (8, 1), (1, 8), (7, 2), (63, 1), (63, 64), (4, 5)):
            self.fails(f"cut(a, {low}, {many})", many)
        self.fits("cut(b, 1, w)", "w", 5)
        self.fails("cut(b, 2, w)", "w", 5)
        self.fits("cut(a, 5, (w - 5))", "(w - 5)", 6)
        self.fails("cut(a, 6, (w - 5))", "(w - 5)", 6)
        self.fits("cut(1:64, 63, 1)", 1)
        self.fits("cut(1:64, 0, 64)", 64)
        self.fails("cut(1:64, 1, 64)", 64)
        self.fails("cut(a, 0, 7)", 8)

    def test_joins(self):
        self.fits("join(a, b)", 17)
        self.fits("join(c, c)", 2)
        self.fits("join(1:63, c)", 64)
        self.fits("join(1:32, 1:32)", 64)
        self.fits("join(join(1:32, 1:31), c)", 64)
        self.fails("join(1:64, c)", 64)
        self.fails("join(c, 1:64)", 64)
        self.fails("join(1:32, 1:33)", 64)
        self.fails("cut(join(1:64, 1:64), 0, 8)")
        self.fails("join(a, b)", 16)
        self.fits("join(a, b)", 63, 31)
        self.fits("cut(join(a, b), 0, 8)", 8, 31)
        self.fails("cut(join(a, b), 0, 8)", 8, 32)

    def test_joins_of_names_of_no_widths(self):
        for one, other in ((0, 0), (-8, 8), (-4, 1), (60, 5)):
            let = ("let", "o", ("cut", ("join", ("name", "a"), ("name", "b")), 0, ("", 1)))
            rows = (let, ("out", "o", ("", 1)), ("in", "a", ("", one)), ("in", "b", ("", other)))
            self.refuses_yard(BadWidth, "p", 0, "o", (("p", (), rows),))
        for one, other in ((0, 1), (-8, 9), (70, -6)):
            let = ("let", "o", ("cut", ("join", ("name", "a"), ("name", "b")), 0, ("", 1)))
            rows = (let, ("out", "o", ("", 1)), ("in", "a", ("", one)), ("in", "b", ("", other)))
            self.refuses_yard(BadWidth, "p", 2, "a", (("p", (), rows),))

    def test_fills(self):
        self.fits("fill(a, 8)")
        self.fits("fill(a, 9)", 9)
        self.fits("fill(c, 64)", 64)
        self.fits("fill(a, (w + 1))", "(w + 1)", 62)
        self.fails("fill(a, 7)", 7)
        self.fails("fill(b, w)", "w", 8)
        self.fails("fill(1:64, 63)", 63)
        self.fails("fill(a, 9)", 8)

    def test_within_each_kind_of_term(self):
        for term in ("~{}", "{} + a", "a + {}", "t[{}]", "m[{}]", "cut({}, 0, 8)", "fill({}, 8)",
                     "cut(join({}, a), 0, 8)", "cut(join(a, {}), 0, 8)", "if {} == a then a else a",
                     "if c then {} else a", "if c then a else {}"):
            self.fits(term.format("(a & d)"))
            for bad in ("(a & b)", "(256:8)", "fill(b, 8)", "cut(a, 1, 8)", "(if a then a else a)"):
                self.fails(term.format(bad))


class TestRows(Looking):
    def test_first_words(self):
        for width in (1, 2, 8, 63, 64):
            for number in (0, 1, 2 ** width - 1):
                self.lets_by("part p", f"rest r {width} {number} = r")
            for number in (2 ** width, 10 ** 20 - 1):
                self.refuses(BadWidth, "p", 0, "r", "part p", f"rest r {width} {number} = r")
        head = ("part q w", "rest r (w - 1) 7 = r", "part p")
        self.lets_by(*head, "use u q(4)")
        self.refuses(BadWidth, "q", 0, "r", *head, "use u q(3)")

    def test_numbers_of_tables(self):
        for width in (1, 8, 64):
            top = 2 ** width - 1
            self.lets_by("part p", f"table t {width}: 0, {top}, 1, {top}")
            for bad in (top + 1, 10 ** 20 - 1):
                self.refuses(BadWidth, "p", 1, "t", "part p", "in a 8", f"table t {width}: {bad}")
                self.refuses(BadWidth, "p", 1, "t", "part p", "in a 8", f"table t {width}: {top}, {bad}, 0")
                self.refuses(BadWidth, "p", 1, "t", "part p", "in a 8", f"table t {width}: 0, {top}, {bad}")
        head = ("part q w", "table t w: 7", "part p")
        self.lets_by(*head, "use u q(3)")
        self.refuses(BadWidth, "q", 0, "t", *head, "use u q(2)")

    def test_a_rests_term(self):
        self.lets_by("part p", "in a 8", "rest r 8 0 = a")
        for width in (7, 9, 1, 64):
            self.refuses(BadWidth, "p", 1, "r", "part p", "in a 8", f"rest r {width} 0 = a")
        self.refuses(BadWidth, "p", 1, "r", "part p", "in a 8", "rest r 1 0 = cut(a, 8, 1)")

    def test_a_lets_term(self):
        for kind in ("out", "wire"):
            self.lets_by("part p", "let x = a", f"{kind} x 8", "in a 8")
            self.refuses(BadWidth, "p", 0, "x", "part p", "let x = a", f"{kind} x 9", "in a 8")
            self.refuses(BadWidth, "p", 0, "x", "part p", "let x = a", f"{kind} x 8", "in a 7")

    def test_a_memorys_terms(self):
        head = ("part p", "in a 8", "in b 1", "in c 64")
        for place in ("a", "b", "c", "m[a]", "1:1"):
            self.lets_by(*head, f"memory m 8 4: {place}, a, b")
        self.refuses(BadWidth, "p", 3, "m", *head, "memory m 8 4: a + b, a, b")
        for value in ("b", "c", "1:7", "1:9", "~b"):
            self.refuses(BadWidth, "p", 3, "m", *head, f"memory m 8 4: a, {value}, b")
        for on in ("a", "c", "1:2", "1:8"):
            self.refuses(BadWidth, "p", 3, "m", *head, f"memory m 8 4: a, a, {on}")
        self.lets_by(*head, "memory m 8 4: a, m[b], a == m[b]")

    def test_a_uses_terms(self):
        q = ("part q w v", "in a w", "in b (v + 1)", "in c 8", "table t 1: 0", "part p", "in x 8", "in y 9", "in z 10")
        self.lets_by(*q, "use u q(8, 8): x, y, x")
        self.lets_by(*q, "use u q(10, 7): z, x, x")
        self.lets_by(*q, "use u q(9, 9): y, z, x")
        for use in ("(9, 8): x, y, x", "(8, 9): x, y, x", "(8, 8): x, y, y", "(8, 8): y, y, x", "(8, 8): x, x, x",
                    "(8, 8): x, y, z", "(8, 8): x, y + x, x", "(8, 8): x & y, y, x", "(8, 8): x, y, cut(z, 9, 8)"):
            self.refuses(BadWidth, "p", 3, "u", *q, "use u q" + use)

    def test_a_uses_terms_ask_other_uses(self):
        q = ("part q w", "in a w", "out s (w + 1)", "let s = fill(a, (w + 1))", "part p", "in x 8")
        self.lets_by(*q, "use v q(9): u.s", "use u q(8): x", "out o 10", "let o = v.s")
        self.refuses(BadWidth, "p", 1, "v", *q, "use v q(8): u.s", "use u q(8): x")
        self.refuses(BadWidth, "p", 1, "v", *q, "use v q(8): u.s", "use u q(9): x")


class TestInTheOrderOfTheWalk(Looking):
    LEAF = ("part leaf w", "in a w", "out s w", "let s = a + 7:w", "rest r 4 0 = cut(a, 0, 4)")
    TWIG = ("part twig v", "in a 64", "out s 8", "use x leaf(v): cut(a, 0, v)", "let s = cut(a, 60, v)")

    def test_the_same_part_by_other_numbers(self):
        self.lets_by(*self.LEAF, "part p", "in a 8", "use u leaf(8): a", "use v leaf(4): cut(a, 0, 4)")
        self.refuses(BadWidth, "leaf", 2, "s", *self.LEAF, "part p", "in a 8", "use u leaf(8): a",
                     "use v leaf(2): cut(a, 0, 2)")
        self.refuses(BadWidth, "leaf", 3, "r", *self.LEAF, "part p", "in a 8", "use u leaf(8): a",
                     "use v leaf(3): cut(a, 0, 3)")
        self.refuses(BadWidth, "leaf", 3, "r", *self.LEAF, "part p", "in a 8", "use u leaf(3): cut(a, 0, 3)",
                     "use v leaf(2): cut(a, 0, 2)")
        self.refuses(BadWidth, "leaf", 2, "s", *self.LEAF, "part p", "in a 8", "use u leaf(2): cut(a, 0, 2)",
                     "use v leaf(3): cut(a, 0, 3)")

    def test_all_rows_of_a_part_come_ahead_of_what_it_makes(self):
        head = (*self.LEAF, "part p", "in a 8", "use u leaf(2): cut(a, 0, 2)", "out o 8")
        self.refuses(BadWidth, "p", 3, "o", *head, "let o = u.s")
        self.refuses(BadWidth, "leaf", 2, "s", *head, "let o = a")

    def test_what_a_use_makes_comes_ahead_of_what_later_uses_make(self):
        head = (*self.LEAF, "part twig v", "in a 8", "use x leaf(v): cut(a, 0, v)", "part stem", "in a 8", "out o 9",
                "let o = a", "part p", "in a 8")
        self.refuses(BadWidth, "leaf", 2, "s", *head, "use u twig(2): a", "use v stem: a")
        self.refuses(BadWidth, "stem", 2, "o", *head, "use v stem: a", "use u twig(2): a")
        self.refuses(BadWidth, "leaf", 3, "r", *head, "use w twig(3): a", "use u twig(2): a", "use v stem: a")
        self.refuses(BadWidth, "stem", 2, "o", *head, "use w twig(8): a", "use v stem: a", "use u twig(2): a")

    def test_rows_from_the_first_on(self):
        rows = ["rest r 8 256 = r", "table t 1: 2", "in a 8", "use u q: a, a", "out o 9", "let o = a",
                "memory m 8 4: a, o, a"]
        names = {"rest": "r", "table": "t", "use": "u", "let": "o", "memory": "m"}
        for start in range(len(rows)):
            turned = rows[start:] + rows[:start]
            first = [at for at, row in enumerate(turned) if row.split()[0] in names][0]
            self.refuses(BadWidth, "p", first, names[turned[first].split()[0]], "part q", "in a 7", "in b 8",
                         "part p", *turned)

    def test_made_by_a_part_that_is_itself_made_twice(self):
        head = ("part c w", "in a w", "out s w", "let s = a ^ 15:w", "part b w", "in a 8", "use u c((w - 1)): cut(a, 0, (w - 1))",
                "part p", "in a 8")
        self.lets_by(*head, "use x b(5): a", "use y b(6): a")
        self.refuses(BadWidth, "c", 2, "s", *head, "use x b(5): a", "use y b(4): a")
        self.refuses(BadWidth, "b", 1, "u", *head, "use x b(5): a", "use y b(1): a")


class TestRings(Looking):
    def ring(self, *lines):
        yard = read("\n".join(lines))
        with self.assertRaises(Ring) as caught:
            looked(yard)
        names = caught.exception.names
        told = list(names)
        self.assertIs(type(names), list)
        self.assertEqual(len(set(names)), len(names))
        names.append("z")
        names[0] = "z"
        with self.assertRaises(Ring) as caught:
            looked(yard)
        self.assertEqual(caught.exception.names, told)
        return told

    def is_ring(self, ring, *lines):
        """Whether what is told is this ring, from wherever it begins."""
        told = self.ring(*lines)
        self.assertEqual(sorted(told), sorted(ring), lines)
        start = told.index(ring[0])
        self.assertEqual(told[start:] + told[:start], list(ring), lines)

    def test_a_name_that_asks_itself(self):
        self.is_ring(["o"], "part p", "out o 8", "let o = o")
        self.is_ring(["o"], "part p", "wire o 8", "in a 8", "let o = ~(a + o)")

    def test_through_each_kind_of_term(self):
        for term in ("~o", "o + a", "a + o", "t[o]", "m[o]", "t[m[o]]", "cut(join(a, o), 0, 8)", "cut(join(o, a), 0, 8)",
                     "fill(o, 8)", "if o == a then a else a", "if c then o else a", "if c then a else o",
                     "fill(o < a, 8)"):
            self.is_ring(["o"], "part p", "in a 8", "in c 1", "table t 8: 0", "memory m 8 4: a, a, c", "out o 8",
                         "let o = " + term)

    def test_several_names(self):
        self.is_ring(["a", "b"], "part p", "wire a 8", "wire b 8", "let b = a", "let a = b")
        self.is_ring(["a", "b", "c"], "part p", "wire a 8", "wire b 8", "wire c 8", "let a = b", "let c = ~a", "let b = c + 1:8")

    def test_names_that_only_ask_a_ring_are_not_told(self):
        self.is_ring(["a", "b"], "part p", "wire x 8", "wire a 8", "wire b 8", "out y 8", "in i 8", "wire z 8",
                     "let x = y", "let y = a", "let a = i + z + b", "let b = a", "let z = i")

    def test_through_a_used_parts_doors(self):
        q = ("part q w", "in a w", "in b w", "out s w", "out t w", "let s = ~a", "let t = b")
        self.is_ring(["o", "u.s", "u.a"], *q, "part p", "out o 8", "use u q(8): o, 1:8", "let o = u.s")
        self.is_ring(["u.s", "u.a"], *q, "part p", "use u q(8): u.s, 1:8")
        self.is_ring(["u.s", "u.a", "v.t", "v.b"], *q, "part p", "use u q(8): v.t, 1:8", "use v q(8): 1:8, u.s")

    def test_no_ring_through_doors_that_do_not_lead_to_one_another(self):
        q = ("part q w", "in a w", "in b w", "out s w", "out t w", "let s = ~a", "let t = b")
        self.lets_by(*q, "part p", "in x 8", "out o 8", "use u q(8): x, u.s", "let o = u.t")
        self.is_ring(["u.s", "u.a", "u.t", "u.b"], *q, "part p", "use u q(8): u.t, u.s")

    def test_in_made_parts_with_full_names(self):
        q = ("part q w", "out s w", "wire x w", "let s = x", "let x = s", "part r", "use v q(8)")
        self.is_ring(["u.v.s", "u.v.x"], *q, "part p", "use u r")
        self.is_ring(["v.s", "v.x"], *q[:-2], "part p", "use v q(8)")

    def test_rests_and_memories_break_rings(self):
        self.lets_by("part p", "out o 8", "rest r 8 0 = o", "let o = ~r")
        self.lets_by("part p", "rest r 8 0 = r + 1:8")
        self.lets_by("part p", "rest r 8 0 = s", "rest s 8 0 = r")
        self.lets_by("part p", "memory m 8 4: m[0:1], m[1:1], m[2:2] == m[3:2]")
        self.lets_by("part p", "out o 8", "out c 1", "let o = m[1:2]", "let c = o == 1:8", "memory m 8 4: o, o, c")
        self.lets_by("part q w", "in a w", "out s w", "rest r w 0 = a", "let s = r", "part p", "use u q(8): u.s")
        self.lets_by("part q w", "in a w", "out s w", "memory m w 4: a, a, 1:1", "let s = m[0:1]", "part p",
                     "use u q(8): ~u.s")

    def test_a_memorys_and_a_tables_place_is_asked(self):
        self.is_ring(["o"], "part p", "out o 8", "let o = m[o]", "memory m 8 4: o, o, 1:1")

    def test_parts_that_are_not_made_have_no_ring(self):
        self.lets_by("part q", "out s 8", "let s = s", "part p", "in a 8")

    def test_rings_come_behind_all_else(self):
        self.refuses(BadWidth, "p", 3, "b", "part p", "out a 8", "let a = a", "out b 8", "let b = 1:1")
        self.refuses(BadWidth, "q", 1, "s", "part q", "out s 8", "let s = 1:1", "part p", "out a 8", "let a = a", "use u q")

    def test_a_long_ring(self):
        lines = [f"wire n{k} 8" for k in range(30)] + [f"let n{k} = n{(k + 1) % 30}" for k in range(30)]
        self.assertEqual(len(self.ring("part p", *lines)), 30)

    def test_300_names_one_behind_the_other(self):
        yard = [("wire", f"n{k}", ("", 8)) for k in range(300)]
        yard += [("let", f"n{k}", ("name", f"n{k + 1}")) for k in range(299)]
        self.assertIsNone(refusal((("p", (), (*yard, ("let", "n299", ("number", 0, ("", 8))))),)))
        self.assertEqual(refusal((("p", (), (*yard, ("let", "n299", ("name", "n0")))),))[0], Ring)


class TestRefusals(unittest.TestCase):
    TEXTS = ("part p\nin a 8\nin a 8", "part p\nlet a = 1:1", "part p\nout a 8\nlet a = 1:1", "part p\nout a 8",
             "part p\nout a 8\nlet a = a")

    def test_their_classes_alone(self):
        kinds = []
        for text in self.TEXTS:
            with self.assertRaises(ValueError) as caught:
                looked(read(text))
            kinds.append(type(caught.exception).__name__)
            self.assertEqual(type(caught.exception).__bases__, (YardError,))
        self.assertEqual(kinds, ["Twice", "Lacking", "BadWidth", "Unwired", "Ring"])

    def test_fields_are_texts_and_whole_numbers(self):
        for text in self.TEXTS[:4]:
            with self.assertRaises(YardError) as caught:
                looked(read(text))
            error = caught.exception
            self.assertEqual([type(thing) for thing in (error.part, error.row, error.name)], [str, int, str])

    def test_what_is_refused_is_taken_once_it_is_made_good(self):
        for text in self.TEXTS:
            self.assertIsNotNone(refusal(read(text)))
            self.assertIsNone(looked(read("part p\nin a 8")))
        for yard in sound_yards(20, 5):
            name, params, rows = yard[-1]
            bad = yard[:-1] + ((name, params, rows + (("in", "zz", ("", 65)),)),)
            self.assertEqual(refusal(bad), (BadWidth, ["main", len(rows), "zz"]))
            self.assertIsNone(refusal(yard))

    def test_place(self):
        self.assertEqual(looked.__module__, "wireyard.looking")


if __name__ == "__main__":
    unittest.main()
