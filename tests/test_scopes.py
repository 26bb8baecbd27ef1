import copy
import unittest

from sound import Model, sound_yards
from wireyard.pieces import Piece
from wireyard.reading import read
from wireyard.scopes import in_order, wired_of

NESTED = read("""\
part leaf w
  out s w
  rest r w 1 = x
  in a w
  let s = x + r
  wire x w
  memory m (w + 1) 3: a, join(1:1, a), x == a
  let x = a
  table t w: 1, 2
part twig v
  in b 8
  rest f v 0 = f
  use p leaf(8): q.s
  out t 8
  let t = p.s & q.s
  table e 3: 7
  in c 1
  use q leaf((v + 1)): if c then b else b
  memory g v 2: b, f, c
part main
  in d 8
  let y = u.t ^ m[d]
  use u twig(7): d, 1:1
  out z 1
  memory m 8 4: d, y, 1:1
  rest r 4 15 = ~r
  out y 8
  use v twig(7): y, z
  table t 8: 9, 8, 7
  let z = r == 0:4
  in c 64
""")


def shape(thing):
    """The same thing with the word "piece" in the place of each piece."""
    if isinstance(thing, Piece):
        return "piece"
    if isinstance(thing, (list, tuple)):
        return type(thing)([shape(one) for one in thing])
    return thing


def shapes(wired):
    return [shape(things) for things in (wired.names, wired.resting, wired.tables, wired.memories, wired.ins, wired.outs)]


class TestWiredOf(unittest.TestCase):
    def test_names(self):
        wired = wired_of(NESTED)
        self.assertEqual([name for name, _ in wired.names], [
            "y",
            "u.b", "u.c", "u.p.a", "u.p.s", "u.p.x", "u.t", "u.q.a", "u.q.s", "u.q.x",
            "v.b", "v.c", "v.p.a", "v.p.s", "v.p.x", "v.t", "v.q.a", "v.q.s", "v.q.x",
            "z",
        ])
        self.assertEqual([(name, piece.width(), piece.asks()) for name, piece in wired.names], [
            ("y", 8, ["u.t", "d"]),
            ("u.b", 8, ["d"]), ("u.c", 1, []), ("u.p.a", 8, ["u.q.s"]), ("u.p.s", 8, ["u.p.x", "u.p.r"]),
            ("u.p.x", 8, ["u.p.a"]), ("u.t", 8, ["u.p.s", "u.q.s"]), ("u.q.a", 8, ["u.c", "u.b"]),
            ("u.q.s", 8, ["u.q.x", "u.q.r"]), ("u.q.x", 8, ["u.q.a"]),
            ("v.b", 8, ["y"]), ("v.c", 1, ["z"]), ("v.p.a", 8, ["v.q.s"]), ("v.p.s", 8, ["v.p.x", "v.p.r"]),
            ("v.p.x", 8, ["v.p.a"]), ("v.t", 8, ["v.p.s", "v.q.s"]), ("v.q.a", 8, ["v.c", "v.b"]),
            ("v.q.s", 8, ["v.q.x", "v.q.r"]), ("v.q.x", 8, ["v.q.a"]),
            ("z", 1, ["r"]),
        ])

    def test_resting(self):
        wired = wired_of(NESTED)
        self.assertEqual([(*rest[:3], rest[3].asks(), rest[3].width()) for rest in wired.resting], [
            ("u.f", 7, 0, ["u.f"], 7), ("u.p.r", 8, 1, ["u.p.x"], 8), ("u.q.r", 8, 1, ["u.q.x"], 8),
            ("r", 4, 15, ["r"], 4),
            ("v.f", 7, 0, ["v.f"], 7), ("v.p.r", 8, 1, ["v.p.x"], 8), ("v.q.r", 8, 1, ["v.q.x"], 8),
        ])

    def test_tables(self):
        self.assertEqual(wired_of(NESTED).tables, [
            ("u.p.t", (1, 2)), ("u.e", (7,)), ("u.q.t", (1, 2)), ("v.p.t", (1, 2)), ("v.e", (7,)), ("v.q.t", (1, 2)),
            ("t", (9, 8, 7)),
        ])

    def test_memories(self):
        wired = wired_of(NESTED)
        told = [(*memory[:3], *[(piece.asks(), piece.width()) for piece in memory[3:]]) for memory in wired.memories]
        self.assertEqual(told, [
            ("u.p.m", 9, 3, (["u.p.a"], 8), (["u.p.a"], 9), (["u.p.x", "u.p.a"], 1)),
            ("u.q.m", 9, 3, (["u.q.a"], 8), (["u.q.a"], 9), (["u.q.x", "u.q.a"], 1)),
            ("u.g", 7, 2, (["u.b"], 8), (["u.f"], 7), (["u.c"], 1)),
            ("m", 8, 4, (["d"], 8), (["y"], 8), ([], 1)),
            ("v.p.m", 9, 3, (["v.p.a"], 8), (["v.p.a"], 9), (["v.p.x", "v.p.a"], 1)),
            ("v.q.m", 9, 3, (["v.q.a"], 8), (["v.q.a"], 9), (["v.q.x", "v.q.a"], 1)),
            ("v.g", 7, 2, (["v.b"], 8), (["v.f"], 7), (["v.c"], 1)),
        ])

    def test_ins_and_outs_of_the_main_part_alone(self):
        wired = wired_of(NESTED)
        self.assertEqual((wired.ins, wired.outs), ([("d", 8), ("c", 64)], [("z", 1), ("y", 8)]))

    def test_kinds_of_values(self):
        wired = wired_of(NESTED)
        for things in (wired.names, wired.resting, wired.tables, wired.memories, wired.ins, wired.outs):
            self.assertIs(type(things), list)
            for thing in things:
                self.assertIs(type(thing), tuple)
        for _, numbers in wired.tables:
            self.assertIs(type(numbers), tuple)

    def test_nothing_there(self):
        self.assertEqual(shapes(wired_of(read("part p\nin a 8"))), [[], [], [], [], [("a", 8)], []])
        self.assertEqual(shapes(wired_of(read("part p\ntable t 8: 1"))), [[], [], [("t", (1,))], [], [], []])

    def test_doors_in_of_a_used_part_in_the_order_of_its_ins(self):
        yard = read("part q w\nin z w\nout s 8\nin a 8\nlet s = a\npart p\nin x 8\nin y 4\nuse u q(4): y, x")
        wired = wired_of(yard)
        self.assertEqual([(name, piece.asks()) for name, piece in wired.names],
                         [("u.z", ["y"]), ("u.a", ["x"]), ("u.s", ["u.a"])])

    def test_numbers_come_from_the_part_that_uses(self):
        yard = read("part c w v\nrest r w 0 = r\nrest s v 0 = s\npart b v w\nuse u c((v + 1), w)\npart a\nuse x b(3, 4)\nuse y b(8, 1)")
        self.assertEqual([rest[:3] for rest in wired_of(yard).resting],
                         [("x.u.r", 4, 0), ("x.u.s", 4, 0), ("y.u.r", 9, 0), ("y.u.s", 1, 0)])

    def test_told_again_the_same(self):
        for yard in [NESTED] + sound_yards(30, 9):
            self.assertEqual(shapes(wired_of(yard)), shapes(wired_of(yard)))

    def test_what_was_told_is_the_askers_own(self):
        before = copy.deepcopy(NESTED)
        first = shapes(wired_of(NESTED))
        told = wired_of(NESTED)
        for things in (told.names, told.resting, told.tables, told.memories, told.ins, told.outs):
            things.append(("zz", 1))
            things[0] = ("zz", 2)
        self.assertEqual(shapes(wired_of(NESTED)), first)
        self.assertEqual(NESTED, before)

    def test_many_yards(self):
        for yard in sound_yards(150, 13):
            wired, model = wired_of(yard), Model(yard)
            self.assertEqual([name for name, _ in wired.names], list(model.terms))
            self.assertEqual([rest[:3] for rest in wired.resting],
                             [(name, model.widths[name], first) for name, first, _ in model.resting])
            self.assertEqual(wired.tables, list(model.tables.items()))
            self.assertEqual([memory[:3] for memory in wired.memories],
                             [(name, model.widths[name], size) for name, size, _ in model.storing])


def in_order_by_recursion(names, told):
    pieces, found = dict(names), []

    def add(name):
        if name in told or name in [one for one, _ in found]:
            return
        for asked in pieces[name].asks():
            add(asked)
        found.append((name, pieces[name]))

    for name, _ in names:
        add(name)
    return found


class TestInOrder(unittest.TestCase):
    def order(self, text):
        """The names of the last part, a part with the ins a and b and the rest r, in order."""
        head = "part q\nin x 8\nin y 8\nout s 8\nout t 8\nlet t = y\nlet s = x\n"
        yard = read(head + "part p\nin a 8\nin b 8\nrest r 8 0 = a\nmemory m 8 2: a, a, 1:1\n" + text)
        wired = wired_of(yard)
        before = list(wired.names)
        told = {"a": 1, "b": 2, "r": 3}
        found = in_order(wired.names, told)
        self.assertEqual((wired.names, told), (before, {"a": 1, "b": 2, "r": 3}))
        self.assertIs(type(found), list)
        self.assertEqual(sorted(found, key=str), sorted(before, key=str))
        self.assertEqual(in_order(wired.names, told), found)
        found.append(1)
        found[0] = 1
        self.assertNotIn(1, in_order(wired.names, told))
        return [name for name, _ in in_order(wired.names, told)]

    def wires(self, **terms):
        rows = [f"wire {name} 8\nlet {name} = {term}" for name, term in terms.items()]
        return self.order("\n".join(rows))

    def test_nothing(self):
        self.assertEqual(in_order([], {}), [])
        self.assertEqual(in_order([], {"a": 1}), [])

    def test_those_that_ask_nothing_or_what_is_told(self):
        self.assertEqual(self.wires(c="1:8", d="a", e="r + b", f="m[a]"), ["c", "d", "e", "f"])

    def test_those_that_are_ahead_already(self):
        self.assertEqual(self.wires(c="a", d="c", e="d + c"), ["c", "d", "e"])

    def test_those_that_stand_behind(self):
        self.assertEqual(self.wires(c="d", d="e", e="a"), ["e", "d", "c"])
        self.assertEqual(self.wires(c="e + d", d="a", e="b"), ["e", "d", "c"])
        self.assertEqual(self.wires(c="d + e", d="a", e="b"), ["d", "e", "c"])

    def test_ahead_of_it_alone(self):
        self.assertEqual(self.wires(c="a", d="g", e="b", f="c", g="e"), ["c", "e", "g", "d", "f"])

    def test_in_the_order_of_its_asks(self):
        self.assertEqual(self.wires(c="if g == f then e else d", d="a", e="g", f="h", g="d", h="e"),
                         ["d", "g", "e", "h", "f", "c"])

    def test_each_once(self):
        self.assertEqual(self.wires(c="d + d + e", d="e + f", e="f", f="a"), ["f", "e", "d", "c"])
        self.assertEqual(self.wires(c="e + d", d="e", e="f", f="a"), ["f", "e", "d", "c"])

    def test_through_places(self):
        self.assertEqual(self.wires(c="m[d]", d="m[m[e]]", e="a"), ["e", "d", "c"])

    def test_through_used_parts(self):
        self.assertEqual(self.order("wire c 8\nlet c = u.s\nuse u q: a, c"), ["u.x", "u.s", "c", "u.y", "u.t"])
        self.assertEqual(self.order("use u q: c, a\nwire c 8\nlet c = u.t"), ["u.y", "u.t", "c", "u.x", "u.s"])
        self.assertEqual(self.order("use u q: v.s, v.t\nuse v q: a, u.s"),
                         ["v.x", "v.s", "u.x", "u.s", "v.y", "v.t", "u.y", "u.t"])

    def test_some_of_the_names(self):
        wired = wired_of(read("part p\nin a 8\nwire c 8\nwire d 8\nwire e 8\nlet c = e\nlet d = c + a\nlet e = a"))
        some = wired.names[:2]
        self.assertEqual([name for name, _ in in_order(some, {"a": 0, "e": 0})], ["c", "d"])
        self.assertEqual([name for name, _ in in_order(some[::-1], {"a": 0, "e": 0})], ["c", "d"])

    def test_a_long_row_of_names(self):
        rows = [("wire", f"n{k}", ("", 8)) for k in range(290)]
        rows += [("let", f"n{k}", ("name", f"n{k + 1}")) for k in range(289)] + [("let", "n289", ("number", 0, ("", 8)))]
        found = in_order(wired_of((("p", (), tuple(rows)),)).names, {})
        self.assertEqual([name for name, _ in found], [f"n{k}" for k in reversed(range(290))])

    def test_a_long_row_of_names_that_ask_all_behind(self):
        sums = [f"n{k + 1} + n{k + 2}" for k in range(23)] + ["n24", "a"]
        self.assertEqual(self.wires(**{f"n{k}": term for k, term in enumerate(sums)}),
                         [f"n{k}" for k in reversed(range(25))])

    def test_many_yards(self):
        for yard in [NESTED] + sound_yards(150, 17):
            wired = wired_of(yard)
            told = {name: 0 for name, *_ in wired.ins + wired.resting}
            found = in_order(wired.names, told)
            self.assertEqual(found, in_order_by_recursion(wired.names, told))
            self.assertEqual(len(found), len(wired.names))


class TestPlace(unittest.TestCase):
    def test_place(self):
        self.assertEqual((wired_of.__module__, in_order.__module__), ("wireyard.scopes",) * 2)


if __name__ == "__main__":
    unittest.main()
