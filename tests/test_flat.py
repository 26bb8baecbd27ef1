import copy
import random
import unittest

from going import YARD, text
from refusing import refusal
from sound import some_doors, sound_yards
from test_looking import FAULTS, with_faults
from wireyard.errors import TooMany, YardError
from wireyard.flat import flat
from wireyard.nets import need_net
from wireyard.plain import Plain
from wireyard.reading import read
from wireyard.running import Running


class FlatModel:
    """The net of a yard by the document's words, straight from its terms."""

    def __init__(self, yard):
        self.parts = {part[0]: part for part in yard}
        self.names, self.resting, self.tables, self.memories = [], [], [], []
        self.widths = {}
        self.rows = []
        self.at = {}
        self.add_part("", yard[-1], {})
        self.terms = dict(self.names)
        ins = [(row[1], self.widths[row[1]]) for row in yard[-1][2] if row[0] == "in"]
        for k, (name, width) in enumerate(ins):
            self.at[name] = self.add(("in", width, k))
        for k, (name, _, _) in enumerate(self.resting):
            self.at[name] = self.add(("rest", self.widths[name], k))
        for name, _ in self.names:
            self.visit(name)
        rests = tuple((name, self.widths[name], first, self.row_of(*term)) for name, first, term in self.resting)
        memories = tuple((name, self.widths[name], size, *[self.row_of(*term) for term in terms])
                         for name, size, terms in self.memories)
        outs = tuple((row[1], self.at[row[1]]) for row in yard[-1][2] if row[0] == "out")
        self.net = (tuple(ins), tuple(self.rows), outs, rests, tuple(numbers for _, numbers in self.tables), memories)

    def add(self, row):
        self.rows.append(row)
        return len(self.rows) - 1

    def number(self, width, numbers):
        return numbers.get(width[0], 0) + width[1]

    def add_part(self, path, part, numbers):
        for row in part[2]:
            name = path + row[1]
            if row[0] == "let":
                self.names.append((name, (row[2], path, numbers)))
            elif row[0] == "use":
                used = self.parts[row[2]]
                for door, term in zip([other for other in used[2] if other[0] == "in"], row[4]):
                    self.names.append((name + "." + door[1], (term, path, numbers)))
                self.add_part(name + ".", used, {param: self.number(width, numbers) for param, width in zip(used[1], row[3])})
            else:
                self.widths[name] = self.number(row[2], numbers)
            if row[0] == "rest":
                self.resting.append((name, row[3], (row[4], path, numbers)))
            if row[0] == "table":
                self.tables.append((name, row[3]))
            if row[0] == "memory":
                self.memories.append((name, row[3], [(term, path, numbers) for term in row[4:]]))

    def asked(self, term, path):
        if term[0] in ("name", "of"):
            return [path + ".".join(term[1:])]
        return [name for kid in self.kids(term) for name in self.asked(kid, path)]

    def kids(self, term):
        places = {"at": (2,), "not": (1,), "two": (2, 3), "pick": (1, 2, 3), "cut": (1,), "join": (1, 2), "fill": (1,)}
        return [term[at] for at in places.get(term[0], ())]

    def visit(self, name):
        if name not in self.at:
            term, path, numbers = self.terms[name]
            for asked in self.asked(term, path):
                self.visit(asked)
            self.at[name] = self.row_of(term, path, numbers)

    def row_of(self, term, path, numbers):
        if term[0] in ("name", "of"):
            return self.at[path + ".".join(term[1:])]
        sides = [self.row_of(kid, path, numbers) for kid in self.kids(term)]
        wide = [self.rows[side][1] for side in sides]
        if term[0] == "number":
            return self.add(("number", self.number(term[2], numbers), term[1]))
        if term[0] == "at":
            name = path + term[1]
            for kind, things in (("table", self.tables), ("memory", self.memories)):
                for k, thing in enumerate(things):
                    if thing[0] == name:
                        return self.add((kind, self.widths[name], k, *sides))
        if term[0] == "two":
            return self.add(("two", 1 if term[1] in ("==", "<") else wide[0], term[1], *sides))
        if term[0] == "cut":
            return self.add(("cut", self.number(term[3], numbers), sides[0], term[2]))
        width = {"not": wide[0], "pick": wide[-1], "join": sum(wide)}.get(term[0])
        return self.add((term[0], width or self.number(term[2], numbers), *sides))


def term_of(rows):
    """A term one bit wide that has so many rows."""
    if rows == 1:
        return ("number", 1, ("", 1))
    if rows == 2:
        return ("not", term_of(1))
    half = (rows - 1) // 2
    return ("two", "&", term_of(half), term_of(rows - 1 - half))


def yard_of(rows):
    """A yard whose net has so many rows."""
    made = [("in", "a", ("", 1))]
    left = rows - 1
    while left:
        name = f"n{len(made)}"
        counts = [max(1, min(39, left - 2)), max(1, min(39, left - 40)), max(1, min(39, left - 78))]
        if left >= 3:
            made.append(("memory", name, ("", 1), 1, *[term_of(count) for count in counts]))
            left -= sum(counts)
        elif left == 2:
            made.append(("rest", name, ("", 1), 0, term_of(1)))
            left -= 2
        else:
            made.append(("rest", name, ("", 1), 0, ("name", "a")))
            left -= 1
    return (("p", (), tuple(made)),)


class TestRows(unittest.TestCase):
    def flat_of(self, *lines):
        yard = text(*lines)
        before = copy.deepcopy(yard)
        net = flat(yard)
        self.assertEqual(yard, before)
        self.assertEqual(flat(yard), net)
        self.assertIsNone(need_net(net))
        return net

    def test_uses_rests_tables_and_memories(self):
        net = self.flat_of(
            "part add w", "in a w", "in b w", "out s w", "let s = a + b",
            "part main", "out y 8", "in x 8", "rest r 8 7 = u.s", "table t 4: 1, 2, 3", "use u add(8): x, v + 1:8", "wire v 8",
            "let y = if x == r then u.s else ~v", "let v = r & fill(t[cut(x, 2, 3)], 8)", "memory m 8 3: x, v, 1:1",
        )
        self.assertEqual(net, (
            (("x", 8),),
            (
                ("in", 8, 0), ("rest", 8, 0),
                # v stands ahead of u.b, which asks it; u.a has no row of its own.
                ("cut", 3, 0, 2), ("table", 4, 0, 2), ("fill", 8, 3), ("two", 8, "&", 1, 4),
                ("number", 8, 1), ("two", 8, "+", 5, 6),
                ("two", 8, "+", 0, 7),
                ("two", 1, "==", 0, 1), ("not", 8, 5), ("pick", 8, 9, 8, 10),
                ("number", 1, 1),
            ),
            (("y", 11),), (("r", 8, 7, 8),), ((1, 2, 3),), (("m", 8, 3, 0, 5, 12),),
        ))

    def test_uses_within_uses_in_the_order_of_a_walk(self):
        net = self.flat_of(
            "part one w", "rest r w 1 = i", "in i w", "memory m w 2: i, i, 0:1", "out o (w + 1)", "let o = join(1:1, r)",
            "part two w", "table t w: 1", "use x one(w): j", "rest s w 0 = j", "in j w", "out o w", "let o = cut(x.o, 0, w)",
            "part main", "rest a 3 2 = b", "use u two(3): b", "in b 3", "table k 3: 7, 0", "memory n 3 1: b, u.o, v.o == b",
            "use v two(3): u.o", "out c 3", "let c = n[k[a]] - v.o",
        )
        ins, rows, outs, rests, tables, memories = net
        self.assertEqual(ins, (("b", 3),))
        self.assertEqual([rest[:3] for rest in rests], [("a", 3, 2), ("u.x.r", 3, 1), ("u.s", 3, 0), ("v.x.r", 3, 1), ("v.s", 3, 0)])
        self.assertEqual(tables, ((1,), (7, 0), (1,)))
        self.assertEqual([memory[:3] for memory in memories], [("u.x.m", 3, 2), ("n", 3, 1), ("v.x.m", 3, 2)])
        self.assertEqual(rows[:6], (("in", 3, 0), *[("rest", 3, k) for k in range(5)]))
        self.assertEqual(rows[6:], (
            # u.j and u.x.i are b; u.x.o, u.o; v.j and v.x.i are u.o; v.x.o, v.o; c.
            ("number", 1, 1), ("join", 4, 6, 2), ("cut", 3, 7, 0),
            ("number", 1, 1), ("join", 4, 9, 4), ("cut", 3, 10, 0),
            ("table", 3, 1, 1), ("memory", 3, 1, 12), ("two", 3, "-", 13, 11),
            # The ons of the memories; those of u.x.m and v.x.m are alike, and stand twice.
            ("number", 1, 0), ("two", 1, "==", 11, 0), ("number", 1, 0),
        ))
        self.assertEqual(outs, (("c", 14),))
        self.assertEqual([rest[3] for rest in rests], [0, 0, 0, 8, 8])
        self.assertEqual([memory[3:] for memory in memories], [(0, 0, 15), (0, 8, 16), (8, 8, 17)])

    def test_each_kind_of_term(self):
        net = self.flat_of(
            "part p", "in a 4", "in b 4", "in c 1", "table t 4: 5", "memory m 4 2: a, b, c",
            *[f"out o{k} 4" for k in range(10)], "out e 1", "out l 1", "out w 8", "out n 2",
            "let o0 = a & b", "let o1 = a | b", "let o2 = a ^ b", "let o3 = a + b", "let o4 = a - b", "let o5 = ~a",
            "let o6 = if c then a else b", "let o7 = t[b]", "let o8 = m[c]", "let o9 = 9:4", "let e = b == a", "let l = b < a",
            "let w = join(b, a)", "let n = cut(b, 1, 2)",
        )
        self.assertEqual(net[1], (
            ("in", 4, 0), ("in", 4, 1), ("in", 1, 2), ("two", 4, "&", 0, 1), ("two", 4, "|", 0, 1), ("two", 4, "^", 0, 1),
            ("two", 4, "+", 0, 1), ("two", 4, "-", 0, 1), ("not", 4, 0), ("pick", 4, 2, 0, 1), ("table", 4, 0, 1),
            ("memory", 4, 0, 2), ("number", 4, 9), ("two", 1, "==", 1, 0), ("two", 1, "<", 1, 0), ("join", 8, 1, 0), ("cut", 2, 1, 1),
        ))
        self.assertEqual([row for _, row in net[2]], list(range(3, 17)))
        self.assertEqual(net[5], (("m", 4, 2, 0, 1, 2),))

    def test_rows_in_any_order(self):
        lines = ["let o = w + a", "wire w 8", "out o 8", "let w = r", "rest r 8 0 = o", "in a 8"]
        rows = (("in", 8, 0), ("rest", 8, 0), ("two", 8, "+", 1, 0))
        choice = random.Random(3)
        for _ in range(20):
            net = self.flat_of("part p", *lines)
            self.assertEqual(net, ((("a", 8),), rows, (("o", 2),), (("r", 8, 0, 2),), (), ()))
            choice.shuffle(lines)

    def test_what_is_asked_stands_ahead_in_the_order_of_asks(self):
        net = self.flat_of(
            "part p", "out o 8", "wire a 8", "wire b 8", "wire c 8", "wire d 8",
            "let o = b + a", "let a = 1:8", "let b = c ^ d", "let d = 2:8", "let c = 3:8",
        )
        self.assertEqual(net[1], (("number", 8, 3), ("number", 8, 2), ("two", 8, "^", 0, 1), ("number", 8, 1), ("two", 8, "+", 2, 3)))

    def test_names_without_rows(self):
        net = self.flat_of(
            "part q", "in i 8", "out o 8", "let o = i",
            "part p", "in a 8", "use u q: b", "wire b 8", "out o 8", "out k 8", "let o = u.o", "let b = a", "let k = r",
            "rest r 8 5 = r", "memory m 8 1: u.o, o, z", "in z 1",
        )
        rows = (("in", 8, 0), ("in", 1, 1), ("rest", 8, 0))
        self.assertEqual(net, ((("a", 8), ("z", 1)), rows, (("o", 0), ("k", 2)), (("r", 8, 5, 2),), (), (("m", 8, 1, 0, 0, 1),)))

    def test_nothing_but_a_table(self):
        self.assertEqual(self.flat_of("part p", "table t 8: 1, 2"), ((), (), (), (), ((1, 2),), ()))

    def test_none_made_fewer(self):
        net = self.flat_of("part p", "in a 8", "out s 8", "out t 8", "wire w 8", "let s = a + 0:8", "let t = a + 0:8", "let w = 0:8")
        self.assertEqual(net[1], (("in", 8, 0), ("number", 8, 0), ("two", 8, "+", 0, 1), ("number", 8, 0), ("two", 8, "+", 0, 3),
                                  ("number", 8, 0)))

    def test_many_yards(self):
        for yard in sound_yards(200, 61) + [read(YARD)]:
            before = copy.deepcopy(yard)
            net = flat(yard)
            self.assertEqual(net, FlatModel(yard).net)
            self.assertEqual(flat(yard), net)
            self.assertIsNone(need_net(net))
            self.assertEqual(yard, before)

    def test_beside_plain(self):
        choice = random.Random(9)
        for yard in sound_yards(60, 62):
            running, plain = Running(flat(yard)), Plain(yard)
            doors = {}
            for _ in range(8):
                doors = some_doors(choice, yard, doors)
                self.assertEqual(list(running.beat(doors).items()), list(plain.beat(doors).items()))
                self.assertEqual((running.rests(), running.cells()), (plain.rests(), plain.cells()))


class TestRefused(unittest.TestCase):
    def test_as_looked(self):
        for fault in FAULTS:
            yard = with_faults(fault)
            for _ in range(2):
                with self.assertRaises(YardError) as caught:
                    flat(yard)
                error = caught.exception
                self.assertEqual((type(error), list(vars(error).values())), refusal(yard))
        flat(with_faults())

    def test_more_than_3000_rows(self):
        for many in (1, 2, 3, 4, 5, 40, 41, 42, 43, 118, 119, 2999, 3000):
            net = flat(yard_of(many))
            self.assertEqual(len(net[1]), many)
            self.assertIsNone(need_net(net))
        for many in (3001, 3002, 4000):
            for _ in range(2):
                with self.assertRaises(TooMany) as caught:
                    flat(yard_of(many))
                self.assertEqual((type(caught.exception), TooMany.__bases__), (TooMany, (YardError,)))
        self.assertEqual(len(flat(yard_of(3000))[1]), 3000)

    def test_what_looked_refuses_comes_ahead(self):
        name, params, rows = yard_of(3001)[0]
        yard = ((name, params, rows + (("wire", "w", ("", 8)),)),)
        with self.assertRaises(YardError) as caught:
            flat(yard)
        self.assertIs(type(caught.exception), refusal(yard)[0])
        self.assertNotEqual(type(caught.exception), TooMany)

    def test_place(self):
        self.assertEqual(flat.__module__, "wireyard.flat")


if __name__ == "__main__":
    unittest.main()
