import copy
import random
import unittest

from wireyard.reading import read
from wireyard.rings import asks_of, ring_in


def asks_in(term):
    """What a let by a term asks, in a part with names enough."""
    head = "part q\nin i 8\nin j 8\nout s 8\nlet s = i\n"
    part = "part p\nin a 8\nin b 8\nin c 8\nrest r 8 0 = a\nuse u q: a, b\ntable t 8: 1\nmemory m 8 4: a, b, c\nout o 8\n"
    return asks_of(read(head + part + "let o = " + term))["o"]


class TestAsksOfTerms(unittest.TestCase):
    def test_each_kind(self):
        self.assertEqual(asks_in("1:8"), [])
        self.assertEqual(asks_in("a"), ["a"])
        self.assertEqual(asks_in("r"), ["r"])
        self.assertEqual(asks_in("o"), ["o"])
        self.assertEqual(asks_in("u.s"), ["u.s"])
        self.assertEqual(asks_in("~a"), ["a"])
        self.assertEqual(asks_in("cut(a, 0, 8)"), ["a"])
        self.assertEqual(asks_in("fill(a, 8)"), ["a"])
        self.assertEqual(asks_in("join(b, a)"), ["b", "a"])
        self.assertEqual(asks_in("if c then b else a"), ["c", "b", "a"])
        for sign in ("|", "^", "&", "==", "<", "+", "-"):
            self.assertEqual(asks_in(f"b {sign} a"), ["b", "a"])

    def test_places_but_not_tables_and_memories(self):
        self.assertEqual(asks_in("t[a]"), ["a"])
        self.assertEqual(asks_in("m[b]"), ["b"])
        self.assertEqual(asks_in("m[1:8]"), [])
        self.assertEqual(asks_in("m[t[a] + u.s]"), ["a", "u.s"])

    def test_each_once_from_the_left(self):
        self.assertEqual(asks_in("a + a"), ["a"])
        self.assertEqual(asks_in("b + a + b + r + u.s + a + u.s"), ["b", "a", "r", "u.s"])
        self.assertEqual(asks_in("if b == 1:8 then m[a] else join(r, b)"), ["b", "a", "r"])
        self.assertEqual(asks_in("~(c & (b | (a ^ c)))"), ["c", "b", "a"])


class TestAsksOfYards(unittest.TestCase):
    NESTED = """\
part leaf w
  in a w
  in b w
  out s w
  let s = x + a
  wire x w
  let x = b
part twig
  in b 8
  use p leaf(8): q.s, b
  out t 8
  let t = p.s & q.s
  use q leaf(8): 0:8, r
  rest r 8 0 = t
part main
  in d 8
  let y = v.t ^ u.t ^ d
  use u twig: d
  out y 8
  use v twig: y
  memory m 8 4: d, y, 1:1
"""

    def test_in_the_order_of_the_walk(self):
        told = asks_of(read(self.NESTED))
        self.assertEqual(list(told.items()), [
            ("y", ["v.t", "u.t", "d"]),
            ("u.b", ["d"]),
            ("v.b", ["y"]),
            ("u.p.a", ["u.q.s"]),
            ("u.p.b", ["u.b"]),
            ("u.t", ["u.p.s", "u.q.s"]),
            ("u.q.a", []),
            ("u.q.b", ["u.r"]),
            ("u.p.s", ["u.p.x", "u.p.a"]),
            ("u.p.x", ["u.p.b"]),
            ("u.q.s", ["u.q.x", "u.q.a"]),
            ("u.q.x", ["u.q.b"]),
            ("v.p.a", ["v.q.s"]),
            ("v.p.b", ["v.b"]),
            ("v.t", ["v.p.s", "v.q.s"]),
            ("v.q.a", []),
            ("v.q.b", ["v.r"]),
            ("v.p.s", ["v.p.x", "v.p.a"]),
            ("v.p.x", ["v.p.b"]),
            ("v.q.s", ["v.q.x", "v.q.a"]),
            ("v.q.x", ["v.q.b"]),
        ])

    def test_rests_and_memories_ask_by_no_name(self):
        self.assertEqual(asks_of(read("part p\nin a 8\nrest r 8 0 = r + a\nmemory m 8 4: a, r, 1:1\ntable t 8: 1")), {})

    def test_doors_in_the_order_of_the_used_parts_ins(self):
        text = "part q\nin z 8\nout s 8\nin a 8\nlet s = a\npart p\nin x 8\nin y 8\nuse u q: y, x"
        self.assertEqual(list(asks_of(read(text)).items()), [("u.z", ["y"]), ("u.a", ["x"]), ("u.s", ["u.a"])])

    def test_a_use_of_a_part_without_ins(self):
        text = "part q\nout s 8\nlet s = 1:8\npart p\nuse u q\nout o 8\nlet o = u.s"
        self.assertEqual(list(asks_of(read(text)).items()), [("o", ["u.s"]), ("u.s", [])])

    def test_parts_that_are_not_made_ask_nothing(self):
        text = "part q\nin a 8\nout s 8\nlet s = a\npart p\nin a 8\nout o 8\nlet o = a"
        self.assertEqual(asks_of(read(text)), {"o": ["a"]})

    def test_names_of_made_parts_are_not_the_makers(self):
        text = "part q\nin a 8\nout s 8\nlet s = a\npart p\nin a 8\nout s 8\nlet s = u.s\nuse u q: a"
        self.assertEqual(list(asks_of(read(text)).items()), [("s", ["u.s"]), ("u.a", ["a"]), ("u.s", ["u.a"])])

    def test_what_was_told_is_the_askers_own(self):
        yard = read(self.NESTED)
        first = copy.deepcopy(asks_of(yard))
        told = asks_of(yard)
        for asked in told.values():
            asked.append("z")
            asked[0] = "z"
        told["new"] = []
        del told["y"]
        self.assertEqual(asks_of(yard), first)
        self.assertEqual(yard, read(self.NESTED))
        self.assertEqual({type(asked) for asked in first.values()}, {list})


class Rings(unittest.TestCase):
    def rings(self, asks):
        """Checks that a ring is told, and that it is one."""
        before = copy.deepcopy(asks)
        ring = ring_in(asks)
        self.assertEqual((asks, list(asks)), (before, list(before)))
        self.assertIs(type(ring), list)
        self.assertGreater(len(ring), 0)
        self.assertEqual(len(set(ring)), len(ring))
        for one, other in zip(ring, ring[1:] + ring[:1]):
            self.assertIn(other, asks[one])
        self.assertEqual(ring_in(asks), ring)
        return ring

    def none(self, asks):
        before = copy.deepcopy(asks)
        self.assertIsNone(ring_in(asks))
        self.assertEqual(asks, before)


class TestRingIn(Rings):
    def test_none(self):
        self.none({})
        self.none({"a": []})
        self.none({"a": ["b"], "b": ["c"], "c": []})
        self.none({"a": ["b", "c"], "b": ["d"], "c": ["d"], "d": []})
        self.none({"a": ["b", "b"], "b": []})

    def test_names_that_are_no_keys_ask_nothing(self):
        self.none({"a": ["x"]})
        self.none({"a": ["x", "y"], "b": ["x", "a"]})
        self.assertEqual(self.rings({"a": ["x", "a"]}), ["a"])

    def test_a_name_that_asks_itself(self):
        self.assertEqual(self.rings({"a": ["a"]}), ["a"])
        self.assertEqual(self.rings({"a": ["b"], "b": ["c", "b"], "c": []}), ["b"])
        self.assertEqual(self.rings({"a": [], "b": ["a", "b"]}), ["b"])

    def test_longer_ones(self):
        self.assertEqual(sorted(self.rings({"a": ["b"], "b": ["a"]})), ["a", "b"])
        self.assertEqual(sorted(self.rings({"a": ["b"], "b": ["c"], "c": ["a"]})), ["a", "b", "c"])

    def test_names_that_only_lead_to_a_ring_are_not_in_it(self):
        ring = self.rings({"x": ["y"], "y": ["a"], "a": ["b"], "b": ["c"], "c": ["a", "z"], "z": []})
        self.assertEqual(sorted(ring), ["a", "b", "c"])

    def test_behind_names_without_a_ring(self):
        asks = {"p": ["q", "r"], "q": ["s"], "r": ["s", "q"], "s": [], "t": ["p", "u"], "u": ["v", "s"], "v": ["w"],
                "w": ["q", "u"]}
        self.assertEqual(sorted(self.rings(asks)), ["u", "v", "w"])

    def test_each_one_asks_the_next(self):
        asks = {"a": ["b", "c"], "b": ["d"], "c": ["a"], "d": []}
        self.assertEqual(sorted(self.rings(asks)), ["a", "c"])

    def test_several(self):
        ring = self.rings({"a": ["b"], "b": ["a"], "c": ["d"], "d": ["c"]})
        self.assertIn(sorted(ring), (["a", "b"], ["c", "d"]))

    def test_long_rows_of_names(self):
        many = 20000
        asks = {f"n{k}": [f"n{k + 1}"] for k in range(many)}
        self.assertIsNone(ring_in(asks))
        asks[f"n{many}"] = ["n0"]
        self.assertEqual(len(ring_in(asks)), many + 1)

    def test_broad_ones_without_a_ring(self):
        asks = {f"n{k}": [f"n{j}" for j in range(k + 1, 300)] for k in range(300)}
        self.assertIsNone(ring_in(asks))

    def test_many(self):
        choice = random.Random(5)
        told = [0, 0]
        for _ in range(2000):
            names = [f"n{k}" for k in range(choice.randint(1, 8))]
            asks = {name: choice.sample(names, min(len(names), choice.choice((0, 1, 1, 1, 2)))) for name in names}
            if has_ring(asks):
                self.rings(asks)
            else:
                self.none(asks)
            told[has_ring(asks)] += 1
        self.assertGreater(min(told), 200)

    def test_what_was_told_is_the_askers_own(self):
        asks = {"a": ["b"], "b": ["a"]}
        told = ring_in(asks)
        first = list(told)
        told.append("z")
        told[0] = "z"
        self.assertEqual(ring_in(asks), first)
        self.assertEqual(asks, {"a": ["b"], "b": ["a"]})
        alone = {"a": ["a"]}
        ring_in(alone).append("b")
        self.assertEqual(alone, {"a": ["a"]})

    def test_it_keeps_nothing(self):
        asks = {"a": ["b"], "b": ["a"]}
        self.assertIsNotNone(ring_in(asks))
        asks["b"] = []
        self.assertIsNone(ring_in(asks))
        asks["b"].append("a")
        self.assertIsNotNone(ring_in(asks))


class TestRingsOfYards(Rings):
    def test_a_yard_without_one(self):
        self.none(asks_of(read(TestAsksOfYards.NESTED.replace("use v twig: y", "use v twig: d"))))

    def test_a_ring_through_used_parts(self):
        text = "part q\nin a 8\nout s 8\nlet s = ~a\npart p\nout o 8\nuse u q: o\nlet o = u.s"
        self.assertEqual(sorted(self.rings(asks_of(read(text)))), ["o", "u.a", "u.s"])

    def test_a_rest_breaks_it(self):
        text = "part q\nin a 8\nout s 8\nrest r 8 0 = a\nlet s = ~r\npart p\nout o 8\nuse u q: o\nlet o = u.s"
        self.none(asks_of(read(text)))

    def test_a_place_does_not(self):
        text = "part p\nout o 8\ntable t 8: 1\nlet o = t[o]"
        self.assertEqual(self.rings(asks_of(read(text))), ["o"])

    def test_place(self):
        self.assertEqual((asks_of.__module__, ring_in.__module__), ("wireyard.rings", "wireyard.rings"))


def has_ring(asks):
    """By going on leaving out names that ask none that is left."""
    left = dict(asks)
    while True:
        still = {name: left[name] for name in left if any(other in left for other in left[name])}
        if len(still) == len(left):
            return len(left) > 0
        left = still


if __name__ == "__main__":
    unittest.main()
