import unittest

from refusing import Looking, refusal
from sound import sound_yards
from wireyard.errors import BadWidth, Lacking, Ring, TooDeep, TooMany, Twice, Unwired
from wireyard.reading import read


QUART = ("part q w", "in a w", "out s w", "let s = a")


class TestLetBy(Looking):
    def test_all_kinds_of_rows_and_terms(self):
        self.lets_by(
            "part q w v", "in a w", "in b (v + 1)", "out s w", "out t (v + 1)", "let s = ~a", "let t = b - 1:(v + 1)",
            "part p", "let y = if k[m[x]] == x then cut(u.s, 1, 8) else z | fill(cut(x, 7, 1), 8)",
            "in x 8", "out y 8", "wire z 8", "rest r 9 511 = fill(join(r, x) == u.t, 9)",
            "let z = x ^ x & x + x - x", "use u q(9, 16): r, join(cut(r, 0, 1), join(x, k[z]))",
            "memory m 8 32: x, y, u.s < r", "table k 8: 0, 255",
        )

    def test_a_single_row(self):
        for row in ("in a 8", "table t 1: 0, 1", "rest r 1 1 = r", "memory m 1 1: 0:1, 0:1, 0:1"):
            self.lets_by("part p", row)

    def test_many_yards(self):
        for yard in sound_yards(300, 11):
            self.assertIsNone(refusal(yard), yard)

    def test_parts_that_are_not_made_are_looked_at_by_names_alone(self):
        self.lets_by("part q w", "in a w", "out s 8", "let s = a + 999:1", "part p", "in a 8")
        self.lets_by("part q w", "out s w", "let s = s", "part p", "in a 8")

    def test_somewhat_beyond_what_a_text_may_have(self):
        rows = tuple(("in", f"name{k}name", ("", 8)) for k in range(70))
        parts = tuple((f"part{k}", ("w", "v", "k", "m"), (("in", "a", ("w", 0)),)) for k in range(25))
        memory = ("memory", "m", ("", 8), 33, ("name", "name1name"), ("name", "name1name"), ("number", 1, ("", 1)))
        self.assertIsNone(refusal(parts + (("p", (), rows + (memory,)),)))


class TestNames(Looking):
    def test_a_parts_name_twice(self):
        self.refuses(Twice, "q", -1, "q", *QUART, "part q", "in a 8", "part p", "in a 8")
        self.refuses(Twice, "p", -1, "p", "part p", "in a 8", "part q", "in a 8", "part p", "in a 8")
        self.refuses(Twice, "p", -1, "p", "part p", "in a 8", "part p w w", "in a v")

    def test_a_param_twice(self):
        self.refuses(Twice, "q", -1, "w", "part q w w", "in a 8", "part p", "in a 8")
        self.refuses(Twice, "q", -1, "v", "part q w v v", "in a z", "in a 8", "part p", "in a 8")
        self.refuses(Twice, "q", -1, "w", "part q w v w", "in a 8", "part p", "in a 8")
        self.refuses(Twice, "p", -1, "w", *QUART, "part p w w", "in a 8")

    def test_a_name_told_twice_by_each_kind_of_row(self):
        rows = ("in a 8", "out a 8", "wire a 8", "rest a 8 0 = i", "use a q(8): i", "table a 8: 1",
                "memory a 8 4: i, i, 1:1")
        for one in rows:
            for other in rows:
                self.refuses(Twice, "p", 2, "a", *QUART, "part p", "in i 8", one, other)
                self.refuses(Twice, "p", 3, "a", *QUART, "part p", "in i 8", one, "let i = z", other)

    def test_a_row_that_begins_well_is_no_name_by_a_let(self):
        self.lets_by("part p", "let a = i", "out a 8", "in i 8")
        self.lets_by("part p", "out a 8", "let a = i", "in i 8")

    def test_names_of_parts_and_params_are_of_their_own(self):
        self.lets_by("part q q", "in q q", "part p", "in p 8", "use q q(8): p")
        self.lets_by("part w w v", "in w w", "out v v", "let v = 0:v", "part v", "in w 8", "use u w(8, 2): w")

    def test_the_same_names_in_two_parts(self):
        self.lets_by(*QUART, "part r w", "in a w", "out s w", "let s = a", "part p", "in a 8", "out s 8", "let s = a")

    def test_a_param_that_lacks_in_each_kind_of_row(self):
        for row in ("in n {}", "out n {}", "wire n {}", "rest n {} 0 = i", "table n {}: 1", "memory n {} 4: i, i, i",
                    "use n q({}): i"):
            for width in ("v", "(v + 1)", "(v - 1)", "q", "n", "i"):
                self.refuses(Lacking, "p", 1, width.strip("(").split()[0].strip(")"),
                             *QUART, "part p w", "in i w", row.format(width), "part main", "in a 8")

    def test_params_of_a_use_from_the_left(self):
        head = ("part q w v k", "in a w", "part p w", "in i 8")
        self.refuses(Lacking, "p", 1, "x", *head, "use u q(w, x, y): i")
        self.refuses(Lacking, "p", 1, "y", *head, "use u q(8, (w + 1), y): i")
        self.refuses(Lacking, "p", 1, "z", *head, "use u q(z, x, y): i")

    def test_params_of_terms_come_later(self):
        self.refuses(Lacking, "p", 1, "z", "part p", "rest r 8 0 = fill(r, v)", "in a z")
        self.refuses(Twice, "p", 1, "r", "part p", "rest r 8 0 = fill(r, v)", "in r 8")

    def test_a_use_of_no_part_ahead(self):
        self.refuses(Lacking, "p", 0, "q", "part p", "use u q")
        self.refuses(Lacking, "p", 0, "p", "part p", "use u p")
        self.refuses(Lacking, "p", 1, "q", "part p", "in a 8", "use u q(8): a", *QUART)
        self.refuses(Lacking, "p", 1, "u", *QUART, "part p", "use q q(8): 1:8", "use u u")

    def test_another_count_of_widths(self):
        for widths in ("", "(1, 2)", "(1, 2, 3)"):
            self.refuses(BadWidth, "p", 1, "u", *QUART, "part p", "in i 8", f"use u q{widths}: i")
        for widths in ("(8)", "(1, 2, 3)"):
            self.refuses(BadWidth, "p", 0, "u", "part q", "in a 8", "part p", f"use u q{widths}: 1:8")
        self.refuses(BadWidth, "p", 0, "u", *QUART, "part p", "use u q(8, 8)")

    def test_another_count_of_terms(self):
        for terms in ("", ": i, i", ": i, i, i"):
            self.refuses(Unwired, "p", 1, "u", *QUART, "part p", "in i 8", f"use u q(8){terms}")
        self.refuses(Unwired, "p", 1, "u", "part q", "out s 8", "let s = 1:8", "part p", "in i 8", "use u q: i")
        self.refuses(Unwired, "p", 1, "u", "part q", "in a 8", "in b 8", "part p", "in i 8", "use u q: i")

    def test_a_let_of_no_out_or_wire(self):
        rows = ("in a 8", "rest a 8 0 = i", "use a q(8): i", "table a 8: 1", "memory a 8 4: i, i, 1:1", "wire b 8")
        for row in rows:
            self.refuses(Lacking, "p", 2, "a", *QUART, "part p", "in i 8", row, "let a = z")
            self.refuses(Lacking, "p", 0, "a", *QUART, "part p w", "let a = z", "in i 8", row)
        self.refuses(Lacking, "p", 0, "w", *QUART, "part p w", "let w = 1:8", "in i 8")

    def test_a_second_let(self):
        for kind in ("out", "wire"):
            self.refuses(Twice, "p", 3, "a", "part p", f"{kind} a 8", "wire b 8", "let a = 1:8", "let a = z")
            self.refuses(Twice, "p", 1, "a", "part p", "let a = 1:8", "let a = 1:8", f"{kind} a 8")

    def test_an_out_or_wire_without_a_let(self):
        self.refuses(Unwired, "p", 1, "a", "part p", "in i 8", "out a 8")
        self.refuses(Unwired, "p", 1, "a", "part p", "in i 8", "wire a 8")
        self.refuses(Unwired, "p", 2, "b", "part p", "let a = i", "in i 8", "wire b 8", "out a 8", "out c 8")
        self.refuses(Unwired, "q", 0, "a", "part q", "out a 8", "part p", "wire z 8", "let z = y")


class TestNamesInTerms(Looking):
    HEAD = ("part q w", "in a w", "out s w", "wire x w", "let s = a", "let x = a", "rest r w 0 = a", "table t w: 1",
            "part p w", "in i w", "out o w", "wire x w", "rest r w 0 = i", "use u q(w): i", "table t w: 1",
            "memory m w 4: i, i, 1:1", "let x = i")
    TAIL = ("part main", "in a 8")

    def lacks(self, name, term):
        self.refuses(Lacking, "p", 8, name, *self.HEAD, "let o = " + term, *self.TAIL)

    def has(self, term):
        self.lets_by(*self.HEAD, "let o = " + term, *self.TAIL)

    def test_names(self):
        for name in ("i", "o", "x", "r"):
            self.has(name)
        for name in ("u", "t", "m", "w", "q", "p", "a", "s", "z"):
            self.lacks(name, name)

    def test_doors(self):
        self.has("u.s")
        for use in ("i", "o", "x", "r", "t", "m", "w", "q", "p", "z"):
            self.lacks(use, use + ".s")
        for door in ("a", "x", "r", "t", "w", "o", "u", "z"):
            self.lacks(door, "u." + door)

    def test_doors_of_the_used_part_and_no_other(self):
        text = ("part q", "out s 8", "let s = 1:8", "part k", "out t 8", "let t = 1:8", "part p", "use u q", "use v k",
                "wire x 8")
        self.lets_by(*text, "let x = u.s + v.t")
        self.refuses(Lacking, "p", 3, "s", *text, "let x = u.s + v.s")
        self.refuses(Lacking, "p", 3, "t", *text, "let x = u.t + v.s")

    def test_tables_and_memories(self):
        self.has("t[i]")
        self.has("m[i]")
        for name in ("i", "o", "x", "r", "u", "w", "q", "z"):
            self.lacks(name, name + "[i]")

    def test_params(self):
        for term in ("1:w", "1:(w - 1)", "fill(i, w)", "cut(i, 0, w)"):
            self.has(term)
        for term in ("1:{}", "fill(i, {})", "cut(i, 0, {})", "1:({} + 1)", "cut(i, 0, ({} - 1))"):
            for name in ("v", "i", "u", "p"):
                self.lacks(name, term.format(name))

    def test_within_each_kind_of_term(self):
        for term in ("~z", "z + i", "i + z", "z == i", "i < z", "t[z]", "m[z]", "cut(z, 0, 8)", "fill(z, 8)", "join(z, i)",
                     "join(i, z)", "if z then i else i", "if i then z else i", "if i then i else z",
                     "~cut(fill(join(i, t[i & z]), 8), 0, 8)"):
            self.lacks("z", term)

    def test_from_the_left(self):
        for term in ("z + y", "z & y == x1", "join(z, y)", "if z then y else x1", "if i then z else y", "(i + z) + y"):
            self.lacks("z", term)

    def test_outer_ones_ahead_of_those_within(self):
        self.lacks("z", "z[y]")
        self.lacks("z", "cut(y, 0, z)")
        self.lacks("z", "fill(y, (z + 1))")
        self.lacks("z", "z[y[x1]]")
        self.lacks("y", "t[y[x1]]")
        self.lacks("z", "fill(cut(y[1:v], 0, x1), z)")
        self.lacks("y", "cut(y, 0, w) + fill(i, z)")

    def test_each_row_with_terms(self):
        for row in ("rest n w 0 = z", "memory n w 4: z, y, x1", "memory n w 4: i, z, y", "memory n w 4: i, i, z",
                    "use n q(w): z", "use n two: i, z", "use n two: z, y"):
            self.refuses(Lacking, "p", 1, "z", "part two", "in a 8", "in b 8", *QUART, "part p w", "in i w", row,
                         *self.TAIL)

    def test_names_that_stand_in_later_rows(self):
        self.lets_by(*QUART, "part p", "rest r 8 0 = o & u.s & t[i]", "use u q(8): r", "let o = i", "out o 8", "in i 8",
                     "table t 8: 1")


BASE = [
    ["part q w", "in a w", "out s w", "let s = a", "wire z 1", "let z = 0:1"],
    ["part p v", "in b v", "in c (v + 1)", "wire x v", "out y v", "rest r v 0 = b", "table t v: 1",
     "memory m v 4: b, r, 1:1", "use u q(v): b", "let x = u.s", "let y = t[x]", "wire z 1", "let z = 0:1"],
    ["part main", "in d 8", "out e 8", "out f 9", "use g p(8): d, 0:9", "let e = g.y", "let f = join(g.y, 1:1)",
     "wire z 1", "let z = 0:1"],
]
# Part and line of the base, what is put in its place, and what is refused then, in the order in which it is told.
FAULTS = [
    (0, 0, "part q w w", Twice, "q", -1, "w"),
    (0, 1, "in a y", Lacking, "q", 0, "y"),
    (0, 4, "wire a 1", Twice, "q", 3, "a"),
    (0, 3, "let s = u.a", Lacking, "q", 2, "u"),
    (0, 5, "let s = h", Twice, "q", 4, "s"),
    (0, 5, "in n 1", Unwired, "q", 3, "z"),
    (1, 0, "part q v", Twice, "q", -1, "q"),
    (1, 0, "part p v v", Twice, "p", -1, "v"),
    (1, 1, "in b w", Lacking, "p", 0, "w"),
    (1, 2, "in b w", Twice, "p", 1, "b"),
    (1, 7, "memory m w 4: h, h, h", Lacking, "p", 6, "w"),
    (1, 8, "use t q(w): h", Twice, "p", 7, "t"),
    (1, 8, "use u p(w)", Lacking, "p", 7, "w"),
    (1, 8, "use u p(v, v)", Lacking, "p", 7, "p"),
    (1, 8, "use u q(v, v)", BadWidth, "p", 7, "u"),
    (1, 8, "use u q(v): h, h", Unwired, "p", 7, "u"),
    (1, 11, "wire v w", Lacking, "p", 10, "w"),
    (1, 5, "rest r v 999 = h", Lacking, "p", 4, "h"),
    (1, 7, "memory m v 4: b, j, h", Lacking, "p", 6, "j"),
    (1, 8, "use u q(v): k", Lacking, "p", 7, "k"),
    (1, 9, "let t = h", Lacking, "p", 8, "t"),
    (1, 9, "let x = u.z", Lacking, "p", 8, "z"),
    (1, 10, "let x = h", Twice, "p", 9, "x"),
    (1, 10, "let y = g[h]", Lacking, "p", 9, "g"),
    (1, 12, "in n 1", Unwired, "p", 10, "z"),
    (2, 0, "part q", Twice, "q", -1, "q"),
    (2, 1, "in d v", Lacking, "main", 0, "v"),
    (2, 4, "use g main", Lacking, "main", 3, "main"),
    (2, 4, "use g p: h", BadWidth, "main", 3, "g"),
    (2, 4, "use g p(64): h", Unwired, "main", 3, "g"),
    (2, 5, "let d = h", Lacking, "main", 4, "d"),
    (2, 6, "let f = 0:w", Lacking, "main", 5, "w"),
    (2, 8, "in n 1", Unwired, "main", 6, "z"),
    (2, 0, "part main k", BadWidth, "main", -1, "k"),
    (1, 2, "in c (v + 64)", BadWidth, "main", 3, "g"),
    (2, 2, "out e 7", BadWidth, "main", 4, "e"),
    (1, 4, "out y (v - 8)", BadWidth, "main", 4, "e"),
    (2, 6, "let f = join(g.y, ~g.y)", BadWidth, "main", 5, "f"),
    (2, 8, "let z = 2:1", BadWidth, "main", 7, "z"),
    (1, 6, "table t v: 1, 256", BadWidth, "p", 5, "t"),
    (1, 8, "use u q((v - 8)): b", BadWidth, "p", 7, "u"),
    (1, 9, "let x = join(u.s, u.s)", BadWidth, "p", 8, "x"),
    (0, 2, "out s 7", BadWidth, "p", 8, "x"),
    (0, 5, "let z = cut(a, 8, 1)", BadWidth, "q", 4, "z"),
    (0, 3, "let s = ~s", Ring, ["g.u.s"]),
]


def with_faults(*faults):
    parts = [list(lines) for lines in BASE]
    for part, line, new, *_ in faults:
        parts[part][line] = new
    return read("\n".join(line for lines in parts for line in lines))


class TestTheFirstIsRefused(unittest.TestCase):
    def test_the_base(self):
        self.assertIsNone(refusal(with_faults()))

    def test_each_alone(self):
        for fault in FAULTS:
            self.assertEqual(refusal(with_faults(fault)), (fault[3], list(fault[4:])), fault)

    def test_each_two_at_once(self):
        for at, first in enumerate(FAULTS):
            for later in FAULTS[at + 1:]:
                if later[:2] != first[:2]:
                    told = (first[3], list(first[4:]))
                    self.assertEqual(refusal(with_faults(first, later)), told, (first, later))
                    self.assertEqual(refusal(with_faults(later, first)), told, (first, later))


def chain(many):
    """Parts p1 to p.., each of which but the first uses the one ahead of it."""
    lines = ["part p1", "in a 8", "out s 8", "let s = a"]
    for at in range(2, many + 1):
        lines += [f"part p{at}", "in a 8", "out s 8", f"use u p{at - 1}: a", "let s = u.s"]
    return lines


class TestMade(Looking):
    def test_a_main_part_with_params(self):
        self.refuses(BadWidth, "p", -1, "w", "part p w", "in a w")
        self.refuses(BadWidth, "p", -1, "v", *QUART, "part p v w", "in a 8")
        self.refuses(BadWidth, "p", -1, "w", "part p w", "in a 8", "out s 9", "let s = a")

    def test_a_main_part_with_params_ahead_of_all_else_that_is_made(self):
        deep = chain(6)
        deep[deep.index("part p6")] = "part p6 w"
        self.refuses(BadWidth, "p6", -1, "w", *deep)

    def test_four_and_five_parts_within_one_another(self):
        for many in (1, 2, 3, 4):
            self.lets_by(*chain(many))
        for many in (5, 6, 9):
            self.refuses(TooDeep, f"p{many - 3}", 2, "u", *chain(many))

    def test_the_use_that_makes_the_fifth(self):
        lines = ["part p1", "in a 8", "part p2", "use b p1: 1:8", "use c p1: 1:8", "part p3", "in a 8", "use d p2"]
        self.lets_by(*lines, "part p4", "use e p1: 1:8", "use f p3: 2:8", "use g p3: 3:8")
        lines += ["part p4", "use e p1: 1:8", "wire x 8", "let x = 1:8", "use f p3: x"]
        self.refuses(TooDeep, "p2", 0, "b", *lines, "part p5", "use g p4")
        self.refuses(TooDeep, "p3", 1, "d", *lines, "part p5", "use h p4", "part p6", "use j p5")
        # What is made ahead, with all that it makes, is gone through first.
        self.refuses(TooDeep, "p2", 0, "b", *lines, "part p5", "use h p4", "part p6", "use i p4", "use j p5")
        self.refuses(TooDeep, "p3", 1, "d", *lines, "part p5", "use h p4", "part p6", "use j p5", "use i p4")

    def test_parts_that_are_not_made_may_go_deep(self):
        self.lets_by(*chain(9), "part p", "in a 8")
        self.lets_by(*chain(9), "part p", "in a 8", "use u p3: a")

    def test_uses_side_by_side_are_not_within_one_another(self):
        self.lets_by(*chain(3), "part p", "in a 8", *[f"use u{k} p3: a" for k in range(9)])


class TestManyNames(Looking):
    def yard_of(self, *parts):
        """Parts of so many ins and of uses, each a part's place, of a yard that no text can tell."""
        told = []
        for at, (ins, uses) in enumerate(parts):
            rows = [("in", f"n{k}", ("", 8)) for k in range(ins)]
            for k, used in enumerate(uses):
                terms = tuple(("number", 1, ("", 8)) for _ in range(parts[used][0]))
                rows.append(("use", f"u{k}", f"p{used}", (), terms))
            told.append((f"p{at}", (), tuple(rows)))
        return tuple(told)

    def test_300_and_301_in_one_part(self):
        self.assertIsNone(refusal(self.yard_of((300, ()))))
        self.assertEqual(refusal(self.yard_of((301, ())))[0], TooMany)

    def test_each_kind_of_row_tells_one_name_but_lets(self):
        one = ("number", 1, ("", 1))
        rows = [("out", "o", ("", 1)), ("wire", "x", ("", 1)), ("rest", "r", ("", 1), 0, one), ("table", "t", ("", 1), (1,)),
                ("memory", "m", ("", 1), 1, one, one, one), ("use", "u", "p", (), ())]
        rows += [("let", "o", one), ("let", "x", one)]
        for many in (300, 301):
            ins = tuple(("in", f"n{k}", ("", 1)) for k in range(many - 7))
            yard = (("p", (), (("table", "k", ("", 1), (1,)),)), ("q", (), (*rows, *ins)))
            self.assertEqual(refusal(yard) is None, many == 300)
            if many == 301:
                self.assertEqual(refusal(yard)[0], TooMany)

    def test_names_of_used_parts_and_of_uses_count(self):
        self.assertIsNone(refusal(self.yard_of((9, ()), (0, (0,) * 30))))
        self.assertEqual(refusal(self.yard_of((9, ()), (1, (0,) * 30)))[0], TooMany)
        self.assertIsNone(refusal(self.yard_of((9, ()), (9, (0,) * 4), (0, (1,) * 6))))
        self.assertEqual(refusal(self.yard_of((9, ()), (9, (0,) * 4), (1, (1,) * 6)))[0], TooMany)

    def test_parts_that_are_not_made_do_not_count(self):
        self.assertIsNone(refusal(self.yard_of((301, ()), (300, ()))))

    def test_a_use_that_goes_too_deep_and_the_301st_name(self):
        deep = ((0, ()), (0, (0,)), (0, (1,)), (0, (2,)))
        self.assertEqual(refusal(self.yard_of(*deep, (0, (3,)))), (TooDeep, ["p1", 0, "u0"]))
        self.assertEqual(refusal(self.yard_of(*deep, (300, (3,))))[0], TooMany)
        self.assertEqual(refusal(self.yard_of(*deep, (296, (3,)))), (TooDeep, ["p1", 0, "u0"]))
        # The fourth part's own use is counted ahead of its being too deep.
        self.assertEqual(refusal(self.yard_of(*deep, (297, (3,))))[0], TooMany)

    def test_what_comes_first_in_the_walk(self):
        deep = ((0, ()), (0, (0,)), (0, (1,)), (0, (2,)), (290, ()))
        self.assertEqual(refusal(self.yard_of(*deep, (9, (3, 4)))), (TooDeep, ["p1", 0, "u0"]))
        self.assertEqual(refusal(self.yard_of(*deep, (9, (4, 3))))[0], TooMany)
        # What a use makes is counted behind all names of the part that it stands in.
        self.assertEqual(refusal(self.yard_of((1, ()), (300, (0,))))[0], TooMany)

    def test_the_fifth_part_itself_is_not_counted(self):
        parts = ((300, ()), (0, (0,)), (0, (1,)), (0, (2,)), (0, (3,)))
        self.assertEqual(refusal(self.yard_of(*parts)), (TooDeep, ["p1", 0, "u0"]))
        parts = ((0, ()), (297, (0,)), (0, (1,)), (0, (2,)), (0, (3,)))
        self.assertEqual(refusal(self.yard_of(*parts))[0], TooMany)

    def test_a_great_many_made_parts(self):
        parts = [(0, ())]
        for at in range(3):
            parts.append((0, (at,) * 60))
        self.assertEqual(refusal(self.yard_of(*parts))[0], TooMany)


if __name__ == "__main__":
    unittest.main()
