import copy
import random
import unittest

from netmaking import NetModel, some_nets, some_words
from sound import sound_yards
from test_nets import EMPTY, NET, ODD, at_path, paths, put
from wireyard.errors import BadNet, YardError
from wireyard.fewer import fewer
from wireyard.flat import flat
from wireyard.nets import is_net, need_net
from wireyard.running import Running

ASKED = {"not": (2,), "two": (3, 4), "pick": (2, 3, 4), "cut": (2,), "join": (2, 3), "fill": (2,), "table": (3,), "memory": (3,)}
INS = (("a", 8), ("b", 8), ("c", 1), ("d", 1))
AHEAD = (("in", 8, 0), ("in", 8, 1), ("in", 1, 2), ("in", 1, 3))
TABLE = (7, 9)


def asked(row):
    return [row[at] for at in ASKED.get(row[0], ())]


def two_faults(row, rows):
    """What 80 says that no row of two sides is."""
    _, _, sign, one, other = row
    top = 2 ** rows[one][1] - 1
    first, second = [rows[side][2] if rows[side][0] == "number" else None for side in (one, other)]
    return [name for name, is_so in (
        ("later side first", sign in ("&", "|", "^", "+", "==") and one > other),
        ("one row twice", sign != "+" and one == other),
        ("nought", sign in ("&", "|", "^", "+") and 0 in (first, second)),
        ("nought behind", sign in ("-", "<") and second == 0),
        ("greatest", sign in ("&", "|") and top in (first, second)),
        ("greatest ahead", sign == "<" and first == top),
    ) if is_so]


def row_faults(row, rows):
    kinds = [rows[at][0] for at in asked(row)]
    found = ["numbers alone"] if kinds and set(kinds) == {"number"} and row[0] != "memory" else []
    if row[0] == "two":
        found += two_faults(row, rows)
    if row[0] == "not" and kinds[0] == "not":
        found.append("not of a not")
    if row[0] == "pick":
        found += ["pick by a " + kinds[0]] if kinds[0] in ("number", "not") else []
        found += ["pick between one row"] if row[3] == row[4] else []
    if row[0] in ("cut", "fill"):
        found += [row[0] + " as wide"] if row[1] == rows[row[2]][1] else []
        found += [row[0] + " of such"] if kinds[0] == row[0] else []
    if row[0] == "cut" and kinds[0] == "join":
        border = rows[rows[row[2]][3]][1]
        found += ["cut in a join"] if row[3] >= border or row[3] + row[1] <= border else []
    return found


def faults(net):
    """All that a net has of what 80 says that one made fewer has none of."""
    _, rows, outs, rests, _, memories = net
    read = {row for _, row in outs} | {rest[3] for rest in rests} | {row for memory in memories for row in memory[3:]}
    for at in range(len(rows) - 1, -1, -1):
        if at in read:
            read |= set(asked(rows[at]))
    found = ["unread"] * (len(rows) - len(read)) + ["alike"] * (len(rows) - len(set(rows)))
    for row in rows:
        found += row_faults(row, rows)
    return found


class Fewers(unittest.TestCase):
    def fewer_of(self, net):
        self.assertIsNone(need_net(net))
        before = copy.deepcopy(net)
        few = fewer(net)
        self.assertEqual(net, before)
        self.assertEqual(fewer(net), few)
        self.assertTrue(is_net(few))
        self.assertEqual(faults(few), [])
        self.assertEqual(fewer(few), few)
        self.assertLessEqual(len(few[1]), len(net[1]))
        self.assertEqual((few[0], few[4]), (net[0], net[4]))
        self.assertEqual([name for name, _ in few[2]], [name for name, _ in net[2]])
        self.assertEqual([few[1][row][1] for _, row in few[2]], [net[1][row][1] for _, row in net[2]])
        self.assertEqual([rest[:3] for rest in few[3]], [rest[:3] for rest in net[3]])
        self.assertEqual([memory[:3] for memory in few[5]], [memory[:3] for memory in net[5]])
        return few

    def tells_the_same(self, net, few, choice, beats):
        one, other, model = Running(net), Running(few), NetModel(net)
        for _ in range(beats):
            doors = some_words(choice, net)
            told = other.beat(doors)
            self.assertEqual(list(told.items()), list(one.beat(doors).items()))
            self.assertEqual(told, model.beat(doors))
            self.assertEqual((other.rests(), other.cells()), (one.rests(), one.cells()))
            self.assertEqual((other.rests(), other.cells()), (model.rests(), model.cells()))


class TestRules(Fewers):
    def comes_to(self, rows, wanted, fault=None):
        """What rows behind a, b, c and d come to where the last one is told at a door out, with the rows that are left."""
        rows = AHEAD + tuple(rows)
        net = (INS, rows, (("o", len(rows) - 1),), (), (TABLE,), ())
        if fault is not None:
            self.assertIn(fault, faults(net))
        few = self.fewer_of(net)
        self.assertEqual(few[1], wanted)
        self.tells_the_same(net, few, random.Random(1), 20)

    A = (("in", 8, 0),)
    BOTH = (("in", 8, 0), ("in", 8, 1))
    BITS = (("in", 1, 2), ("in", 1, 3))

    def test_rows_that_ask_numbers_alone(self):
        numbers = (("number", 8, 5), ("number", 8, 250), ("number", 1, 1))
        for row, word in (
            (("not", 8, 4), 250), (("two", 8, "&", 4, 5), 0), (("two", 8, "|", 4, 5), 255), (("two", 8, "^", 5, 5), 0),
            (("two", 8, "+", 5, 5), 244), (("two", 8, "-", 4, 5), 11), (("two", 1, "==", 4, 5), 0), (("two", 1, "<", 4, 5), 1),
            (("pick", 8, 6, 4, 5), 5), (("cut", 3, 5, 1), 5), (("join", 9, 4, 6), 11), (("fill", 64, 5), 250),
            (("table", 8, 0, 6), 9), (("table", 8, 0, 4), 0), (("two", 8, "+", 4, 4), 10),
        ):
            self.comes_to((*numbers, row), (("number", row[1], word),), "numbers alone")

    def test_numbers_that_come_about(self):
        rows = (("number", 8, 1), ("two", 8, "+", 4, 4), ("two", 8, "-", 0, 0), ("two", 8, "+", 5, 6), ("two", 8, "^", 7, 1))
        self.comes_to(rows, (("in", 8, 1), ("number", 8, 2), ("two", 8, "^", 0, 1)))

    def test_a_memory_that_is_read_at_a_number_stays(self):
        rows = (("number", 8, 1), ("number", 1, 1), ("in", 8, 0), ("memory", 8, 0, 0))
        net = (INS, rows, (("o", 3),), (), (), (("m", 8, 2, 0, 2, 1),))
        few = self.fewer_of(net)
        self.assertEqual(few, net)
        self.tells_the_same(net, few, random.Random(2), 5)

    def test_sides_in_order(self):
        for sign, width in (("&", 8), ("|", 8), ("^", 8), ("+", 8), ("==", 1)):
            self.comes_to((("two", width, sign, 1, 0),), (*self.BOTH, ("two", width, sign, 0, 1)), "later side first")
            self.comes_to((("two", width, sign, 0, 1),), (*self.BOTH, ("two", width, sign, 0, 1)))
        for sign, width in (("-", 8), ("<", 1)):
            self.comes_to((("two", width, sign, 1, 0),), (*self.BOTH, ("two", width, sign, 1, 0)))

    def test_both_sides_one_row(self):
        for sign in ("&", "|"):
            self.comes_to((("two", 8, sign, 0, 0),), self.A, "one row twice")
        for sign in ("^", "-"):
            self.comes_to((("two", 8, sign, 0, 0),), (("number", 8, 0),), "one row twice")
        self.comes_to((("two", 1, "==", 0, 0),), (("number", 1, 1),), "one row twice")
        self.comes_to((("two", 1, "<", 0, 0),), (("number", 1, 0),), "one row twice")
        self.comes_to((("two", 8, "+", 0, 0),), (*self.A, ("two", 8, "+", 0, 0)))

    def test_nought(self):
        nought = ("number", 8, 0)
        for one, other in ((0, 4), (4, 0)):
            self.comes_to((nought, ("two", 8, "&", one, other)), (nought,), "nought")
            for sign in ("|", "^", "+"):
                self.comes_to((nought, ("two", 8, sign, one, other)), self.A, "nought")
        self.comes_to((nought, ("two", 8, "-", 0, 4)), self.A, "nought behind")
        self.comes_to((nought, ("two", 8, "-", 4, 0)), (*self.A, nought, ("two", 8, "-", 1, 0)))
        self.comes_to((nought, ("two", 1, "<", 0, 4)), (("number", 1, 0),), "nought behind")
        self.comes_to((nought, ("two", 1, "<", 4, 0)), (*self.A, nought, ("two", 1, "<", 1, 0)))
        self.comes_to((nought, ("two", 1, "==", 4, 0)), (*self.A, nought, ("two", 1, "==", 0, 1)))

    def test_the_greatest_word(self):
        top = ("number", 8, 255)
        for one, other in ((0, 4), (4, 0)):
            self.comes_to((top, ("two", 8, "&", one, other)), self.A, "greatest")
            self.comes_to((top, ("two", 8, "|", one, other)), (top,), "greatest")
            for sign in ("^", "+", "=="):
                width = 1 if sign == "==" else 8
                self.comes_to((top, ("two", width, sign, one, other)), (*self.A, top, ("two", width, sign, 0, 1)))
        self.comes_to((top, ("two", 1, "<", 4, 0)), (("number", 1, 0),), "greatest ahead")
        self.comes_to((top, ("two", 1, "<", 0, 4)), (*self.A, top, ("two", 1, "<", 0, 1)))
        self.comes_to((top, ("two", 8, "-", 4, 0)), (*self.A, top, ("two", 8, "-", 1, 0)))
        other = ("number", 8, 254)
        for sign in ("&", "|"):
            self.comes_to((other, ("two", 8, sign, 0, 4)), (*self.A, other, ("two", 8, sign, 0, 1)))

    def test_bits(self):
        one, nought = ("number", 1, 1), ("number", 1, 0)
        bit = (("in", 1, 2),)
        self.comes_to((one, ("two", 1, "&", 4, 2)), bit)
        self.comes_to((one, ("two", 1, "|", 4, 2)), (one,))
        self.comes_to((one, ("two", 1, "<", 4, 2)), (nought,))
        self.comes_to((one, ("two", 1, "^", 4, 2)), (*bit, one, ("two", 1, "^", 0, 1)))

    def test_nots(self):
        self.comes_to((("not", 8, 0), ("not", 8, 4)), self.A, "not of a not")
        self.comes_to((("not", 8, 0), ("not", 8, 4), ("not", 8, 5)), (*self.A, ("not", 8, 0)), "not of a not")
        self.comes_to((("not", 8, 0), ("not", 8, 4), ("two", 8, "-", 5, 0)), (("number", 8, 0),))

    def test_picks(self):
        for bit, left in ((1, ("in", 8, 0)), (0, ("in", 8, 1))):
            self.comes_to((("number", 1, bit), ("pick", 8, 4, 0, 1)), (left,), "pick by a number")
        turned = (*self.BOTH, ("in", 1, 2), ("pick", 8, 2, 1, 0))
        self.comes_to((("not", 1, 2), ("pick", 8, 4, 0, 1)), turned, "pick by a not")
        self.comes_to((("pick", 8, 2, 0, 0),), self.A, "pick between one row")
        self.comes_to((("not", 1, 2), ("pick", 8, 4, 0, 0)), self.A)
        self.comes_to((("pick", 8, 2, 0, 1),), (*self.BOTH, ("in", 1, 2), ("pick", 8, 2, 0, 1)))
        numbers = (("number", 8, 3), ("number", 8, 4))
        self.comes_to((*numbers, ("pick", 8, 2, 4, 5)), (("in", 1, 2), *numbers, ("pick", 8, 0, 1, 2)))

    def test_picks_that_come_to_be_between_one_row(self):
        rows = (("two", 8, "+", 0, 1), ("two", 8, "+", 1, 0), ("pick", 8, 2, 4, 5))
        self.comes_to(rows, (*self.BOTH, ("two", 8, "+", 0, 1)))

    def test_cuts(self):
        self.comes_to((("cut", 8, 0, 0),), self.A, "cut as wide")
        self.comes_to((("cut", 5, 0, 2), ("cut", 2, 4, 1)), (*self.A, ("cut", 2, 0, 3)), "cut of such")
        self.comes_to((("cut", 5, 0, 2), ("cut", 5, 4, 0)), (*self.A, ("cut", 5, 0, 2)), "cut as wide")
        join = ("join", 16, 0, 1)
        self.comes_to((join, ("cut", 8, 4, 0)), (("in", 8, 1),), "cut in a join")
        self.comes_to((join, ("cut", 8, 4, 8)), self.A, "cut in a join")
        self.comes_to((join, ("cut", 3, 4, 5)), (("in", 8, 1), ("cut", 3, 0, 5)), "cut in a join")
        self.comes_to((join, ("cut", 3, 4, 9)), (*self.A, ("cut", 3, 0, 1)), "cut in a join")
        for width, low in ((2, 7), (8, 1), (16, 0), (15, 0), (9, 7)):
            left = (*self.BOTH, ("join", 16, 0, 1))
            self.comes_to((join, ("cut", width, 4, low)), left if width == 16 else (*left, ("cut", width, 2, low)))

    def test_cuts_through_joins_and_cuts(self):
        rows = (("join", 16, 0, 1), ("join", 24, 4, 0), ("cut", 12, 5, 10), ("cut", 5, 6, 1))
        # Bits 11 to 15 of all are bits 3 to 7 of b.
        self.comes_to(rows, (("in", 8, 1), ("cut", 5, 0, 3)))
        rows = (("number", 8, 0x5a), ("join", 16, 4, 0), ("cut", 4, 5, 10))
        self.comes_to(rows, (("number", 4, 6),))
        rows = (("number", 8, 0x5a), ("join", 16, 4, 0), ("cut", 8, 5, 8))
        self.comes_to(rows, (("number", 8, 0x5a),))

    def test_fills(self):
        self.comes_to((("fill", 8, 0),), self.A, "fill as wide")
        self.comes_to((("fill", 9, 0), ("fill", 64, 4)), (*self.A, ("fill", 64, 0)), "fill of such")
        self.comes_to((("fill", 9, 0), ("fill", 9, 4)), (*self.A, ("fill", 9, 0)), "fill of such")
        self.comes_to((("fill", 9, 0), ("cut", 8, 4, 0)), (*self.A, ("fill", 9, 0), ("cut", 8, 1, 0)))

    def test_alike(self):
        rows = (("not", 8, 0), ("not", 8, 0), ("two", 8, "+", 4, 5))
        self.comes_to(rows, (*self.A, ("not", 8, 0), ("two", 8, "+", 1, 1)), "alike")
        rows = (("two", 8, "&", 0, 1), ("two", 8, "&", 1, 0), ("two", 8, "+", 4, 5))
        self.comes_to(rows, (*self.BOTH, ("two", 8, "&", 0, 1), ("two", 8, "+", 2, 2)))
        rows = (("in", 8, 0), ("not", 8, 4), ("not", 8, 0), ("two", 8, "-", 5, 6))
        self.comes_to(rows, (("number", 8, 0),), "alike")

    def test_numbers_of_unlike_widths_are_unlike(self):
        rows = (("number", 8, 1), ("number", 1, 1), ("two", 8, "+", 0, 4), ("two", 1, "^", 2, 5), ("join", 9, 6, 7))
        self.assertEqual(len(self.fewer_of((INS, AHEAD + rows, (("o", 8),), (), (), ()))[1]), 7)

    def test_unread(self):
        self.comes_to((("not", 8, 1), ("not", 8, 4), ("table", 8, 0, 5), ("not", 8, 0)), (*self.A, ("not", 8, 0)), "unread")

    def test_read_by_rests_and_memories_alone(self):
        rows = (("in", 8, 0), ("not", 8, 0), ("in", 8, 1), ("in", 1, 2), ("not", 1, 3), ("rest", 8, 0), ("not", 8, 5))
        net = (INS, rows, (), (("r", 8, 1, 1),), (), (("m", 8, 3, 0, 2, 4),))
        few = self.fewer_of(net)
        self.assertEqual(few, (INS, rows[:5], (), (("r", 8, 1, 1),), (), (("m", 8, 3, 0, 2, 4),)))

    def test_nothing_read(self):
        net = (INS, AHEAD, (), (), (TABLE,), ())
        self.assertEqual(self.fewer_of(net), (INS, (), (), (), (TABLE,), ()))
        self.assertEqual(self.fewer_of(EMPTY), EMPTY)

    def test_sides_in_order_by_where_they_stand_in_the_end(self):
        # What the sum's first side comes to stands behind its second one.
        rows = (("number", 8, 0), ("in", 8, 0), ("in", 8, 1), ("two", 8, "|", 2, 0), ("two", 8, "+", 3, 1))
        self.assertEqual(self.fewer_of((INS, rows, (("o", 4),), (), (), ()))[1], (*self.BOTH, ("two", 8, "+", 0, 1)))


class TestMany(Fewers):
    def test_many_nets(self):
        choice = random.Random(21)
        found = {}
        for net in some_nets(700, 22):
            few = self.fewer_of(net)
            self.tells_the_same(net, few, choice, 4)
            for fault in faults(net):
                found[fault] = found.get(fault, 0) + 1
        # Each thing that a net made fewer has none of is in many of these.
        self.assertEqual(len(found), 18, found)
        self.assertGreater(min(found.values()), 10, found)

    def test_nets_of_yards(self):
        choice = random.Random(23)
        for yard in sound_yards(100, 24):
            net = flat(yard)
            self.tells_the_same(net, self.fewer_of(net), choice, 5)

    def test_the_net(self):
        self.tells_the_same(NET, self.fewer_of(NET), random.Random(25), 50)

    def test_many_rows(self):
        rows = [("in", 8, 0), ("in", 8, 1)]
        for at in range(2998):
            rows.append(("two", 8, "+-^"[at % 3], at + 1, at // 2))
        net = (INS, tuple(rows), (("o", 2999),), (), (), ())
        self.tells_the_same(net, self.fewer_of(net), random.Random(26), 3)
        net = (INS, (("in", 8, 0), *[("not", 8, at) for at in range(2999)]), (("o", 2999),), (), (), ())
        self.assertEqual(len(self.fewer_of(net)[1]), 2)

    def test_what_is_told_is_the_same_each_time(self):
        for net in some_nets(30, 27):
            self.assertEqual(fewer(net), fewer(copy.deepcopy(net)))

    def test_no_net(self):
        for thing in ODD + (list(NET), NET[:5], NET + ((),)):
            for _ in range(2):
                with self.assertRaises(BadNet) as caught:
                    fewer(thing)
                self.assertEqual((type(caught.exception), BadNet.__bases__), (BadNet, (YardError,)))
        for path in paths(NET):
            if path and isinstance(at_path(NET, path), int):
                with self.assertRaises(BadNet):
                    fewer(put(NET, path, -1))

    def test_place(self):
        self.assertEqual(fewer.__module__, "wireyard.fewer")


if __name__ == "__main__":
    unittest.main()
