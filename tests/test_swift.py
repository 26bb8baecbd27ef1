import random
import unittest

from going import YARD, GoingTests, text
from sound import Model, some_doors, sound_yards
from wireyard.errors import BadDoors
from wireyard.plain import Plain
from wireyard.reading import read
from wireyard.swift import Swift


class TestSwift(GoingTests, unittest.TestCase):
    GOES = Swift

    def test_beside_plain(self):
        choice = random.Random(8)
        for yard in sound_yards(200, 51):
            swift, plain, model = Swift(yard), Plain(yard), Model(yard)
            doors = {}
            for at in range(14):
                if at in (0, 9):
                    for thing in (swift, plain, model):
                        thing.back()
                    self.assertEqual(swift.stirred(), 0)
                doors = some_doors(choice, yard, doors)
                told = swift.beat(doors)
                self.assertEqual(list(told.items()), list(plain.beat(doors).items()))
                self.assertEqual((swift.rests(), swift.cells()), (plain.rests(), plain.cells()))
                model.beat(doors)
                for _ in range(2):
                    self.assertEqual(swift.stirred(), model.stirred())

    def test_place(self):
        self.assertEqual(Swift.__module__, "wireyard.swift")
        self.assertIn("stirred", vars(Swift))


class TestStirred(unittest.TestCase):
    def beats(self, lines, *rows):
        """Rows of doors and of how many names are then reckoned."""
        swift = Swift(text(*lines))
        self.stirs(swift, 0)
        for doors, many in rows:
            swift.beat(doors)
            self.stirs(swift, many)
        return swift

    def stirs(self, swift, many):
        for _ in range(2):
            self.assertEqual(swift.stirred(), many)
            self.assertIs(type(swift.stirred()), int)

    LINES = ("part p", "in a 8", "in b 8", "out s 8", "wire x 8", "wire y 8", "wire z 8", "let s = x + y", "let x = a & 15:8",
             "let y = b", "let z = 7:8")

    def test_all_in_the_first_beat(self):
        self.beats(self.LINES, ({"a": 0, "b": 0}, 4))
        self.beats(("part p", "in a 8"), ({"a": 0}, 0), ({"a": 1}, 0))
        self.beats(("part p", "out o 8", "let o = 5:8"), ({}, 1), ({}, 0), ({}, 0))

    def test_none_where_nothing_is_other(self):
        self.beats(self.LINES, ({"a": 3, "b": 4}, 4), ({"a": 3, "b": 4}, 0), ({"b": 4, "a": 3}, 0))

    def test_those_that_ask_what_is_other(self):
        # x and s; y and s; x, y and s.
        self.beats(self.LINES, ({"a": 3, "b": 4}, 4), ({"a": 5, "b": 4}, 2), ({"a": 5, "b": 5}, 2), ({"a": 6, "b": 6}, 3))

    def test_a_name_that_keeps_its_word_stirs_none(self):
        # x is reckoned, and is 3 in each beat.
        self.beats(self.LINES, ({"a": 3, "b": 4}, 4), ({"a": 19, "b": 4}, 1), ({"a": 35, "b": 4}, 1), ({"a": 35, "b": 4}, 0),
                   ({"a": 3, "b": 5}, 3))

    def test_a_sum_that_keeps_its_word_is_reckoned(self):
        lines = self.LINES + ("wire w 8", "let w = s")
        self.beats(lines, ({"a": 3, "b": 4}, 5), ({"a": 4, "b": 3}, 3), ({"a": 4, "b": 4}, 3))

    def test_each_once_behind_all_that_it_asks(self):
        lines = ("part p", "in a 8", "out o 8", "wire x 8", "wire y 8", "wire z 8", "let o = x ^ y ^ z", "let z = x + y + a",
                 "let y = x + x + a", "let x = a")
        swift = self.beats(lines, ({"a": 1}, 4), ({"a": 2}, 4))
        plain = Plain(text(*lines))
        for a in (1, 2, 3, 3, 0):
            self.assertEqual(plain.beat({"a": a}), swift.beat({"a": a}))

    def test_by_the_beat_ahead_and_no_earlier_one(self):
        self.beats(self.LINES, ({"a": 1, "b": 1}, 4), ({"a": 2, "b": 1}, 2), ({"a": 1, "b": 1}, 2), ({"a": 1, "b": 1}, 0))

    def test_rests(self):
        lines = ("part p", "in a 8", "rest r 8 0 = a", "out o 8", "let o = r + 1:8", "rest q 8 5 = q", "wire x 8", "let x = q")
        self.beats(lines, ({"a": 0}, 2), ({"a": 9}, 0), ({"a": 9}, 1), ({"a": 9}, 0), ({"a": 8}, 0), ({"a": 8}, 1))

    def test_a_rest_that_gets_the_word_that_it_has(self):
        lines = ("part p", "in a 8", "rest r 8 4 = a", "out o 8", "let o = r")
        self.beats(lines, ({"a": 4}, 1), ({"a": 4}, 0), ({"a": 5}, 0), ({"a": 5}, 1), ({"a": 5}, 0))

    MEMORY = ("part p", "in at 2", "in v 8", "in on 1", "in k 2", "memory m 8 3: at, v, on", "memory n 8 1: 0:1, v, 1:1",
              "out o 8", "let o = m[k]", "wire x 8", "let x = n[0:1]", "wire y 8", "let y = m[0:1] + n[0:1]")

    def test_memories(self):
        one = {"at": 0, "v": 0, "on": 0, "k": 0}
        self.beats(
            self.MEMORY, (one, 3), (one, 0),
            # A cell is written: those that read the memory are reckoned a beat later, the place being another or not.
            ({**one, "at": 2, "on": 1, "v": 0}, 0), (one, 0),
            ({**one, "at": 2, "on": 1, "v": 7}, 0), (one, 3), (one, 2),
            ({**one, "v": 0, "on": 1, "at": 2}, 0), (one, 2), (one, 0),
        )

    def test_a_memory_that_is_written_what_it_has(self):
        lines = ("part p", "in at 2", "in v 8", "memory m 8 2: at, v, 1:1", "out o 8", "let o = m[1:1]")
        self.beats(lines, ({"at": 1, "v": 5}, 1), ({"at": 1, "v": 5}, 1), ({"at": 1, "v": 5}, 0), ({"at": 0, "v": 0}, 0),
                   ({"at": 2, "v": 9}, 0), ({"at": 3, "v": 9}, 0), ({"at": 0, "v": 9}, 0), ({"at": 0, "v": 9}, 1),
                   ({"at": 0, "v": 9}, 0))

    def test_a_memory_that_is_not_on(self):
        lines = ("part p", "in on 1", "in v 8", "memory m 8 2: 0:1, v, on", "out o 8", "let o = m[0:1]")
        self.beats(lines, ({"on": 0, "v": 5}, 1), ({"on": 0, "v": 6}, 0), ({"on": 1, "v": 6}, 0), ({"on": 0, "v": 7}, 1),
                   ({"on": 0, "v": 8}, 0))

    def test_memories_read_deep_within_terms(self):
        lines = ("part p", "in v 8", "memory m 8 1: 0:1, v, 1:1", "memory n 8 1: 0:1, 0:8, 1:1", "table t 8: 1, 2, 3", "in a 8",
                 "out o 8", "let o = if a == 0:8 then 1:8 else ~t[n[m[0:1]]]", "out q 8", "let q = n[n[0:1]]")
        self.beats(lines, ({"v": 0, "a": 0}, 2), ({"v": 9, "a": 0}, 0), ({"v": 9, "a": 0}, 1), ({"v": 9, "a": 0}, 0))

    def test_a_memory_read_twice_and_asked_too(self):
        lines = ("part p", "in v 8", "memory m 8 1: 0:1, v, 1:1", "out o 8", "let o = m[v] + m[v] + v")
        self.beats(lines, ({"v": 0}, 1), ({"v": 9}, 1), ({"v": 8}, 1), ({"v": 8}, 1), ({"v": 8}, 0))

    def test_tables_stir_none(self):
        lines = ("part p", "in a 8", "table t 8: 1, 1, 2", "out o 8", "let o = t[a]", "wire x 8", "let x = o")
        self.beats(lines, ({"a": 0}, 2), ({"a": 1}, 1), ({"a": 2}, 2), ({"a": 2}, 0))

    def test_doors_of_used_parts(self):
        lines = ("part q w", "in a w", "in b w", "out s w", "let s = a & b", "out t w", "let t = 3:w", "part p", "in x 8", "in y 8",
                 "use u q(8): x, y", "out o 8", "let o = u.s + u.t", "use v q(8): u.s, 0:8", "out k 8", "let k = v.s")
        self.beats(
            lines, ({"x": 1, "y": 1}, 10), ({"x": 1, "y": 1}, 0),
            ({"x": 3, "y": 1}, 2),  # u.a, u.s
            ({"x": 3, "y": 3}, 5),  # u.b, u.s, o, v.a, v.s
            ({"x": 1, "y": 1}, 6), ({"x": 1, "y": 2}, 5), ({"x": 4, "y": 2}, 2), ({"x": 4, "y": 2}, 0),
        )

    def test_all_in_the_first_beat_behind_back(self):
        swift = self.beats(self.LINES, ({"a": 1, "b": 1}, 4), ({"a": 2, "b": 1}, 2))
        for _ in range(2):
            self.assertIsNone(swift.back())
            self.stirs(swift, 0)
            swift.beat({"a": 2, "b": 1})
            self.stirs(swift, 4)
            swift.beat({"a": 2, "b": 1})
            self.stirs(swift, 0)
            swift.beat({"a": 3, "b": 1})
            self.stirs(swift, 2)
        swift.back()
        swift.back()
        self.stirs(swift, 0)

    def test_back_ahead_of_the_first_beat(self):
        swift = Swift(read(YARD))
        swift.back()
        self.stirs(swift, 0)
        self.assertEqual(swift.beat({"a": 1, "go": 1}), {"t": 1, "s": 3})
        self.stirs(swift, 6)

    def test_asked_among_other_things(self):
        swift = self.beats(self.LINES, ({"a": 1, "b": 1}, 4), ({"a": 2, "b": 1}, 2))
        swift.rests()
        swift.cells()
        self.stirs(swift, 2)

    def test_bad_doors_leave_it_as_it_is(self):
        for bad in TestSwift.BAD:
            swift = Swift(read(YARD))
            for a, many in ((1, 6), (2, None), (2, None)):
                before = swift.stirred()
                with self.assertRaises(BadDoors):
                    swift.beat(bad)
                self.stirs(swift, before)
                swift.beat({"a": a, "go": 0})
                if many is not None:
                    self.stirs(swift, many)
        swift = self.beats(self.LINES, ({"a": 1, "b": 1}, 4))
        with self.assertRaises(BadDoors):
            swift.beat({"a": 7, "b": 256})
        swift.beat({"a": 1, "b": 1})
        self.stirs(swift, 0)

    def test_two_go_their_own_ways(self):
        yard = text(*self.LINES)
        one, other = Swift(yard), Swift(yard)
        one.beat({"a": 1, "b": 1})
        self.stirs(other, 0)
        other.beat({"a": 2, "b": 2})
        one.beat({"a": 2, "b": 1})
        self.stirs(one, 2)
        self.stirs(other, 4)
        other.back()
        self.stirs(one, 2)

    def test_doors_that_are_changed_later(self):
        swift = Swift(text(*self.LINES))
        doors = {"a": 1, "b": 1}
        swift.beat(doors)
        doors["a"] = 2
        swift.beat(doors)
        self.stirs(swift, 2)
        told = swift.beat(doors)
        told["s"] = 99
        swift.beat(doors)
        self.stirs(swift, 0)

    def test_cells_that_were_told_are_changed_later(self):
        lines = ("part p", "in v 8", "memory m 8 1: 0:1, v, 1:1", "out o 8", "let o = m[0:1]")
        swift = self.beats(lines, ({"v": 5}, 1), ({"v": 5}, 1))
        swift.cells()[0][1][0] = 9
        self.assertEqual(swift.beat({"v": 5}), {"o": 5})
        self.stirs(swift, 0)

    def test_a_long_row_of_names(self):
        rows = [("in", "a", ("", 8)), ("out", "o", ("", 8)), ("let", "o", ("name", "n0"))]
        rows += [("wire", f"n{k}", ("", 8)) for k in range(298)]
        rows += [("let", f"n{k}", ("two", "+", ("name", f"n{k + 1}"), ("number", 1, ("", 8)))) for k in range(297)]
        swift = Swift((("p", (), (*rows, ("let", "n297", ("name", "a")))),))
        self.assertEqual(swift.beat({"a": 0}), {"o": 41})
        self.assertEqual(swift.beat({"a": 1}), {"o": 42})
        self.stirs(swift, 299)


if __name__ == "__main__":
    unittest.main()
