"""What the tests of Plain and of Swift have in common; a test class names the kind of thing that goes in GOES."""

import copy
import random

from sound import Model, some_doors, sound_yards
from wireyard.errors import BadDoors, YardError
from wireyard.reading import read

# Two doors in, two out, two rests that get each other's words, two memories, and a part that is used twice.
YARD = """\
part count w
  in up 1
  out n w
  rest r w 1 = if up then r + 1:w else r
  let n = r
part main
  in a 8
  out t 1
  in go 1
  rest x 8 3 = y
  use c count(4): go
  rest y 8 200 = x
  memory m 8 4: a, x, go
  use d count(8): c.n == 0:4
  out s 8
  let s = x + m[a]
  let t = cut(y, 7, 1)
  memory k 4 2: c.n, c.n, 1:1
"""


def text(*lines):
    return read("\n".join(lines))


class Going:
    def made(self, *lines):
        return self.GOES(text(*lines))

    def goes(self, thing, doors, outs):
        doors = dict(doors)
        before = copy.deepcopy(doors)
        told = thing.beat(doors)
        self.assertEqual(doors, before)
        self.assertEqual(list(told.items()), list(outs.items()))
        self.assertIs(type(told), dict)
        for word in told.values():
            self.assertIs(type(word), int)

    def stands(self, thing, rests, cells):
        for _ in range(2):
            self.assertEqual((thing.rests(), thing.cells()), (rests, cells))


class GoingTests(Going):
    def test_all_kinds_of_rows(self):
        thing = self.GOES(read(YARD))
        self.stands(thing, [("x", 3), ("c.r", 1), ("y", 200), ("d.r", 1)], [("m", [0, 0, 0, 0]), ("k", [0, 0])])
        self.goes(thing, {"a": 1, "go": 1}, {"t": 1, "s": 3})
        self.stands(thing, [("x", 200), ("c.r", 2), ("y", 3), ("d.r", 1)], [("m", [0, 3, 0, 0]), ("k", [0, 1])])
        self.goes(thing, {"go": 0, "a": 1}, {"t": 0, "s": 203})
        self.stands(thing, [("x", 3), ("c.r", 2), ("y", 200), ("d.r", 1)], [("m", [0, 3, 0, 0]), ("k", [0, 1])])
        self.goes(thing, {"a": 3, "go": 1}, {"t": 1, "s": 3})
        self.stands(thing, [("x", 200), ("c.r", 3), ("y", 3), ("d.r", 1)], [("m", [0, 3, 0, 3]), ("k", [0, 1])])
        self.goes(thing, {"a": 3, "go": 1}, {"t": 0, "s": 203})
        self.stands(thing, [("x", 3), ("c.r", 4), ("y", 200), ("d.r", 1)], [("m", [0, 3, 0, 200]), ("k", [0, 1])])

    def test_used_parts_have_rests_of_their_own(self):
        thing = self.GOES(read(YARD))
        for _ in range(15):
            thing.beat({"a": 0, "go": 1})
        self.assertEqual(thing.rests()[1::2], [("c.r", 0), ("d.r", 1)])
        thing.beat({"a": 0, "go": 0})
        self.assertEqual(thing.rests()[1::2], [("c.r", 0), ("d.r", 2)])
        thing.beat({"a": 0, "go": 1})
        self.assertEqual(thing.rests()[1::2], [("c.r", 1), ("d.r", 3)])
        thing.beat({"a": 0, "go": 1})
        self.assertEqual(thing.rests()[1::2], [("c.r", 2), ("d.r", 3)])

    def test_rests_that_get_each_others_words_at_once(self):
        thing = self.made("part p", "rest a 8 1 = b", "rest b 8 2 = c", "rest c 8 3 = a", "out o 8", "let o = a")
        for a, b, c in ((1, 2, 3), (2, 3, 1), (3, 1, 2), (1, 2, 3)):
            self.stands(thing, [("a", a), ("b", b), ("c", c)], [])
            self.goes(thing, {}, {"o": a})

    def test_memories_that_get_each_others_words_at_once(self):
        thing = self.made("part p", "in v 8", "memory m 8 1: 0:1, n[0:1], 1:1", "memory n 8 1: 0:1, v, 1:1", "out o 8",
                          "let o = m[0:1]", "rest r 8 0 = n[0:1]")
        for v, o, m, n in ((5, 0, 0, 5), (6, 0, 5, 6), (7, 5, 6, 7), (0, 6, 7, 0)):
            self.goes(thing, {"v": v}, {"o": o})
            self.stands(thing, [("r", m)], [("m", [m]), ("n", [n])])

    def test_a_memorys_cells_are_those_ahead_of_the_beat(self):
        thing = self.made("part p", "in at 2", "in v 8", "out o 8", "let o = m[at]", "memory m 8 3: at, v, 1:1")
        self.goes(thing, {"at": 1, "v": 7}, {"o": 0})
        self.goes(thing, {"at": 1, "v": 8}, {"o": 7})
        self.goes(thing, {"at": 1, "v": 9}, {"o": 8})
        self.stands(thing, [], [("m", [0, 9, 0])])

    def test_memories_at_the_last_cell_and_beyond_it(self):
        for size in (1, 3, 32):
            thing = self.made("part p", "in at 8", "in v 8", "in on 1", "out o 8", "let o = m[at]",
                              f"memory m 8 {size}: at, v, on")
            cells = [0] * size
            word = 100
            for at in (size - 1, size, size + 1, 255, 0, 31, 32):
                for on in (1, 0, 1):
                    word += 1
                    self.goes(thing, {"at": at, "v": word, "on": on}, {"o": cells[at] if at < size else 0})
                    if on and at < size:
                        cells[at] = word
                    self.stands(thing, [], [("m", cells)])

    def test_places_of_64_bits(self):
        thing = self.made("part p", "in at 64", "memory m 64 32: at, at, 1:1", "table t 64: 5, 6", "out o 64", "out k 64",
                          "let o = m[at]", "let k = t[at]")
        for at in (2 ** 64 - 1, 2 ** 63, 32):
            self.goes(thing, {"at": at}, {"o": 0, "k": 0})
            self.stands(thing, [], [("m", [0] * 32)])
        self.goes(thing, {"at": 31}, {"o": 0, "k": 0})
        self.goes(thing, {"at": 31}, {"o": 31, "k": 0})
        self.goes(thing, {"at": 1}, {"o": 0, "k": 6})

    def test_yards_without_doors(self):
        thing = self.made("part p", "table t 8: 1")
        self.goes(thing, {}, {})
        self.stands(thing, [], [])
        thing = self.made("part p", "in a 8")
        self.goes(thing, {"a": 5}, {})
        thing = self.made("part p", "out o 8", "let o = 5:8")
        self.goes(thing, {}, {"o": 5})
        self.goes(thing, {}, {"o": 5})

    def test_names_that_stand_behind(self):
        thing = self.made("part q", "in a 8", "in b 8", "out s 8", "out t 8", "let t = b + 1:8", "let s = a + 1:8",
                          "part p", "in x 8", "out o 8", "let o = w", "use u q: u.t, x", "wire w 8", "let w = u.s")
        self.goes(thing, {"x": 5}, {"o": 7})
        self.goes(thing, {"x": 254}, {"o": 0})

    def test_many_yards(self):
        choice = random.Random(6)
        for yard in sound_yards(200, 31):
            thing, model = self.GOES(yard), Model(yard)
            doors = {}
            for beats in (7, 4):
                for _ in range(beats):
                    doors = some_doors(choice, yard, doors)
                    self.goes(thing, doors, model.beat(doors))
                    self.stands(thing, model.rests(), model.cells())
                self.assertIsNone(thing.back())
                model.back()
                self.stands(thing, model.rests(), model.cells())

    def test_back(self):
        thing = self.GOES(read(YARD))
        self.assertIsNone(thing.back())
        for _ in range(3):
            self.stands(thing, [("x", 3), ("c.r", 1), ("y", 200), ("d.r", 1)], [("m", [0, 0, 0, 0]), ("k", [0, 0])])
            self.goes(thing, {"a": 1, "go": 1}, {"t": 1, "s": 3})
            self.goes(thing, {"a": 1, "go": 1}, {"t": 0, "s": 203})
            self.assertIsNone(thing.back())

    def test_two_of_one_yard_side_by_side(self):
        yard = read(YARD)
        one, other = self.GOES(yard), self.GOES(yard)
        self.goes(one, {"a": 1, "go": 1}, {"t": 1, "s": 3})
        self.stands(other, [("x", 3), ("c.r", 1), ("y", 200), ("d.r", 1)], [("m", [0, 0, 0, 0]), ("k", [0, 0])])
        self.goes(other, {"a": 1, "go": 0}, {"t": 1, "s": 3})
        self.goes(one, {"a": 1, "go": 0}, {"t": 0, "s": 203})
        self.goes(other, {"a": 1, "go": 0}, {"t": 0, "s": 200})
        one.back()
        self.stands(other, [("x", 3), ("c.r", 1), ("y", 200), ("d.r", 1)], [("m", [0, 0, 0, 0]), ("k", [0, 1])])

    def test_what_was_told_is_the_askers_own(self):
        thing, other = self.GOES(read(YARD)), self.GOES(read(YARD))
        told = []
        for a in (1, 2, 1, 3, 1):
            doors = {"a": a, "go": 1}
            outs = thing.beat(doors)
            doors["a"] = 7
            doors.clear()
            told.append((outs, dict(outs)))
            self.assertEqual(outs, other.beat({"a": a, "go": 1}))
            for rests, cells in ((thing.rests(), thing.cells()),):
                told.append(((rests, cells), copy.deepcopy((rests, cells))))
                mine = thing.cells()
                mine[0][1][0] = 99
                mine[1][1].append(5)
                mine.pop()
                thing.rests().clear()
            self.stands(thing, other.rests(), other.cells())
        for thing, as_it_was in told:
            self.assertEqual(thing, as_it_was)

    def test_what_was_told_of_a_beat_may_be_changed(self):
        thing, other = self.GOES(read(YARD)), self.GOES(read(YARD))
        for a in (1, 1, 1):
            outs = thing.beat({"a": a, "go": 1})
            self.assertEqual(outs, other.beat({"a": a, "go": 1}))
            outs["s"] = 0
            outs["x"] = 1
            del outs["t"]

    def test_a_dict_of_doors_that_is_changed_later(self):
        thing, other = self.GOES(read(YARD)), self.GOES(read(YARD))
        doors = {"a": 1, "go": 1}
        for a in (1, 0, 2, 2, 1):
            doors["a"] = a
            self.assertEqual(thing.beat(doors), other.beat({"a": a, "go": 1}))

    BAD = (
        {}, {"a": 1}, {"go": 1}, {"a": 1, "go": 1, "b": 1}, {"a": 1, "b": 1}, {"a": 1, "go": 1, "s": 1}, {"a": 1, "go": 2},
        {"a": 256, "go": 1}, {"a": 2 ** 70, "go": 1}, {"a": -1, "go": 1}, {"a": 1, "go": -1}, {"a": True, "go": 1},
        {"a": 1, "go": True}, {"a": 1, "go": False}, {"a": "1", "go": 1}, {"a": None, "go": 1}, {"a": [1], "go": 1},
        {"a": 1, "go": (1,)}, {"a": 1, "go": b"1"}, {"a": {}, "go": 1}, {"A": 1, "go": 1}, {"a ": 1, "go": 1},
        {"a": 1, 5: 1}, {"a": 1, None: 1}, {"a": 1, ("go",): 1}, {"a": 1, "go": 1, None: 1}, {"a": 1, "main.go": 1},
        [("a", 1), ("go", 1)], (("a", 1), ("go", 1)), None, 5, True, "a", "ago", b"", [], (), [1, 1], ["a", "go"], {"a", "go"},
        {1}, frozenset(["a", "go"]), object(), int, len, range(2), iter([]), dict, {"a": 1, "go": 1}.items(),
    )

    def test_bad_doors(self):
        for at, bad in enumerate(self.BAD):
            thing, other = self.GOES(read(YARD)), self.GOES(read(YARD))
            for a in (1, 2, 1):
                with self.assertRaises(BadDoors) as caught:
                    thing.beat(bad)
                self.assertEqual(type(caught.exception).__bases__, (YardError,))
                self.stands(thing, other.rests(), other.cells())
                self.assertEqual(thing.beat({"a": a, "go": 1}), other.beat({"a": a, "go": 1}), at)
                self.stands(thing, other.rests(), other.cells())

    def test_bad_doors_stay_as_they_are_and_are_taken_once_they_are_made_good(self):
        thing = self.GOES(read(YARD))
        doors = {"a": 1, "go": 2}
        with self.assertRaises(BadDoors):
            thing.beat(doors)
        self.assertEqual(doors, {"a": 1, "go": 2})
        doors["go"] = 1
        self.goes(thing, doors, {"t": 1, "s": 3})
        self.stands(thing, [("x", 200), ("c.r", 2), ("y", 3), ("d.r", 1)], [("m", [0, 3, 0, 0]), ("k", [0, 1])])

    def test_words_of_the_doors_widths(self):
        for width in (1, 2, 8, 63, 64):
            thing = self.made("part p", f"in a {width}", f"out o {width}", "let o = ~a")
            top = 2 ** width - 1
            for word in (0, 1, top):
                self.goes(thing, {"a": word}, {"o": top - word})
            for word in (-1, top + 1, 2 ** 64, 2 ** 200, -(2 ** 64)):
                with self.assertRaises(BadDoors):
                    thing.beat({"a": word})

    def test_doors_where_there_are_none(self):
        thing = self.made("part p", "out o 8", "let o = 5:8")
        for bad in ({"a": 1}, {"o": 1}, [], None, ()):
            with self.assertRaises(BadDoors):
                thing.beat(bad)
        self.goes(thing, {}, {"o": 5})

    def test_methods_stand_in_the_class(self):
        for name in ("beat", "rests", "cells", "back"):
            self.assertIn(name, vars(self.GOES))
