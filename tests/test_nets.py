import copy
import random
import unittest

from sound import two_worth
from wireyard.errors import BadNet, YardError
from wireyard.nets import asked_by, cell_at, is_net, led_to, need_net, worth_of

TOP = 2 ** 64 - 1
INS = (("a", 8), ("b", 1), ("x", 64))
ROWS = (
    ("in", 8, 0), ("in", 1, 1), ("rest", 8, 0), ("number", 8, 255), ("not", 8, 3), ("two", 8, "+", 0, 4),
    ("two", 1, "<", 0, 5), ("pick", 8, 6, 0, 5), ("cut", 4, 7, 4), ("join", 12, 7, 8), ("fill", 64, 9),
    ("table", 8, 0, 10), ("memory", 8, 0, 11), ("in", 64, 2), ("table", 64, 1, 13), ("rest", 1, 1),
)
OUTS = (("s", 9), ("t", 0))
RESTS = (("r", 8, 255, 12), ("q", 1, 0, 6))
TABLES = ((1, 2, 255), (TOP,))
MEMORIES = (("m", 8, 4, 9, 12, 6), ("n", 64, 32, 0, 13, 1))
NET = (INS, ROWS, OUTS, RESTS, TABLES, MEMORIES)
EMPTY = ((), (), (), (), (), ())


class Alike:
    """Says that it is like all things."""

    def __eq__(self, other):
        return True

    def __hash__(self):
        return hash("+")


# Things that stand nowhere in a net.
ODD = (Alike(), True, False, None, b"a", b"", [], [0], {}, {"a": 1}, set(), {1}, frozenset(), object(), int, len, range(3),
       (), ((),), ("in",), ("number", 1, 2), [("in", 8, 0)], -1, -2 ** 70, 2 ** 70, is_net, ValueError("x"), iter(()))


def put(net, path, thing):
    """The same net with another thing at a place, told by a row of places within one another."""
    if not path:
        return thing
    at, rest = path[0], path[1:]
    return net[:at] + (put(net[at], rest, thing),) + net[at + 1:]


def at_path(net, path):
    for at in path:
        net = net[at]
    return net


def paths(net, path=()):
    """All places of a net, itself too."""
    found = [path]
    if isinstance(net, tuple):
        for at, thing in enumerate(net):
            found += paths(thing, path + (at,))
    return found


class Nets(unittest.TestCase):
    def good(self, net):
        self.told(net, True)

    def bad(self, net):
        self.told(net, False)

    def told(self, net, good):
        for _ in range(2):
            self.assertIs(is_net(net), good, net)
            if good:
                self.assertIsNone(need_net(net))
            else:
                with self.assertRaises(BadNet) as caught:
                    need_net(net)
                self.assertEqual((type(caught.exception), BadNet.__bases__), (BadNet, (YardError,)))



class TestNoNets(Nets):
    def test_the_net(self):
        before = copy.deepcopy(NET)
        self.good(NET)
        self.assertEqual(NET, before)

    def test_nothing_in_it(self):
        self.good(EMPTY)

    def test_no_tuple_of_six(self):
        for thing in ODD:
            self.bad(thing)
        self.bad(())
        for many in range(12):
            if many != 6:
                self.bad(((),) * many)
        self.bad(NET[:5])
        self.bad(NET[1:])
        self.bad(NET + ((),))
        self.bad(list(NET))
        self.bad([(), (), (), (), (), ()])
        self.bad("abcdef")
        self.bad({key: () for key in range(6)})

    def test_things_of_another_kind_at_each_place(self):
        for path in paths(NET):
            for thing in ODD:
                if isinstance(thing, tuple) and thing == () and len(path) == 1:
                    continue
                self.bad(put(NET, path, thing))
            now = at_path(NET, path)
            if isinstance(now, str) and path[0] != 1:
                # A name may be any text.
                for text in ("", "zz", "u.v.s", "A b", "a" * 100):
                    self.good(put(NET, path, text))
            elif isinstance(now, int):
                for thing in (str(now), [now], (now,), "a", "", "+"):
                    self.bad(put(NET, path, thing))
            elif isinstance(now, tuple):
                for thing in (list(now), now + (None,), (*now, now), str(now), "in", dict(enumerate(now)), set(now)):
                    self.bad(put(NET, path, thing))
                # Only a table may be longer by a number.
                self.told(put(NET, path, now + (0,)), len(path) == 2 and path[0] == 4)

    def test_tuples_one_shorter(self):
        for path in paths(NET):
            now = at_path(NET, path)
            if isinstance(now, tuple) and len(path) == 2 and (path[0] != 4 or len(now) == 1):
                self.bad(put(NET, path, now[:-1]))
                if path[0] != 4:
                    self.bad(put(NET, path, now[1:]))
                    self.bad(put(NET, path, (now[0], *now)))
                    self.bad(put(NET, path, (*now, now[-1])))

    def test_another_kind_or_sign(self):
        for at, row in enumerate(ROWS):
            for kind in ("", "In", "in ", "name", "of", "at", "let", "out", "wire", "use", "+", 5, 0, None, True, ("in",), ["in"],
                         {"in"}, {}, b"in"):
                self.bad(put(NET, (1, at, 0), kind))
        for sign in ("", "~", "++", "=", ">", "<=", "!=", "*", "and", "if", 5, None, True, ("+",), ["+"], {"+"}, b"+", "==<"):
            self.bad(put(NET, (1, 5, 2), sign))
            self.bad(put(NET, (1, 6, 2), sign))

    def test_names_stand_once(self):
        for group, at, other in ((0, 1, "a"), (0, 2, "b"), (2, 1, "s"), (3, 1, "r"), (5, 1, "m")):
            self.bad(put(NET, (group, at, 0), other))
        same = NET
        for group in (0, 2, 3, 5):
            same = put(same, (group, 0, 0), "a" if group == 0 else "b")
        self.good(put(same, (0, 1, 0), "c"))
        self.bad(put(put(NET, (0, 0, 0), ""), (0, 2, 0), ""))

    def test_two_signs_that_stand_for_one_another(self):
        for sign in ("&", "|", "^", "-"):
            self.good(put(NET, (1, 5, 2), sign))
        self.good(put(NET, (1, 6, 2), "=="))
        for sign in ("&", "|", "^", "+", "-"):
            self.bad(put(NET, (1, 6, 2), sign))
        for sign in ("==", "<"):
            self.bad(put(NET, (1, 5, 2), sign))


class TestBounds(Nets):
    def test_widths_of_doors_rests_and_memories(self):
        for width in (1, 2, 63, 64):
            self.good(put(EMPTY, (0,), (("a", width),)))
            number = ("number", width, 0)
            self.good(put(put(EMPTY, (1,), (number,)), (3,), (("r", width, 0, 0),)))
            on = ("number", 1, 0)
            self.good(put(put(EMPTY, (1,), (number, on)), (5,), (("m", width, 1, 0, 0, 1),)))
        for width in (0, -1, 65, 2 ** 70):
            self.bad(put(EMPTY, (0,), (("a", width),)))
            self.bad(put(put(EMPTY, (1,), (("number", 8, 0),)), (3,), (("r", width, 0, 0),)))
            self.bad(put(put(EMPTY, (1,), (("number", 1, 0),)), (5,), (("m", width, 1, 0, 0, 0),)))

    def test_true_is_no_width_and_no_size(self):
        for one in (1, True):
            self.told(put(EMPTY, (0,), (("a", one),)), one is not True)
            self.told(put(put(EMPTY, (1,), (("number", 1, 0),)), (3,), (("r", one, 0, 0),)), one is not True)
            self.told(put(put(EMPTY, (1,), (("number", 1, 0),)), (5,), (("m", one, 1, 0, 0, 0),)), one is not True)
            self.told(put(put(EMPTY, (1,), (("number", 1, 0),)), (5,), (("m", 1, one, 0, 0, 0),)), one is not True)

    def test_true_and_false_are_no_rows_and_no_places(self):
        net = ((("a", 1), ("b", 1)), (("number", 1, 0), ("number", 1, 1), ("number", 1, 1)), (), (), ((0,), (0,)), ())
        for one in (0, 1, False, True):
            good = not isinstance(one, bool)
            for row in (("in", 1, one), ("number", 1, one), ("not", 1, one), ("two", 1, "+", one, 0), ("two", 1, "+", 0, one),
                        ("pick", 1, one, 0, 0), ("pick", 1, 0, one, 0), ("pick", 1, 0, 0, one), ("join", 2, one, 0),
                        ("join", 2, 0, one), ("cut", 1, one, 0), ("fill", 1, one), ("table", 1, one, 0), ("table", 1, 0, one)):
                self.told(put(net, (1, 2), row), good)
            self.told(put(put(net, (1, 2), ("fill", 2, 0)), (1,), net[1] + (("fill", 2, 0), ("cut", 1, 3, one))), good)
            self.told(put(net, (2,), (("s", one),)), good)
            self.told(put(net, (3,), (("r", 1, 0, one),)), good)
            self.told(put(net, (3,), (("r", 1, one, 0),)), good)
            for terms in ((one, 0, 0), (0, one, 0), (0, 0, one)):
                self.told(put(net, (5,), (("m", 1, 1, *terms),)), good)
            self.told(put(net, (4,), ((one,),)), good)

    def test_first_words(self):
        for width in (1, 8, 64):
            for word, good in ((0, True), (1, True), (2 ** width - 1, True), (2 ** width, False), (-1, False)):
                self.told(put(put(EMPTY, (1,), (("number", width, 0),)), (3,), (("r", width, word, 0),)), good)

    def test_sizes(self):
        for size, good in ((1, True), (2, True), (31, True), (32, True), (33, False), (0, False), (-1, False), (2 ** 70, False)):
            self.told(put(NET, (5, 0, 2), size), good)
            self.told(put(NET, (5, 1, 2), size), good)

    def test_tables(self):
        self.good(put(EMPTY, (4,), ((0,),)))
        self.good(put(EMPTY, (4,), ((TOP,) * 32, (0, TOP))))
        self.bad(put(EMPTY, (4,), ((),)))
        self.bad(put(EMPTY, (4,), ((0,) * 33,)))
        self.bad(put(EMPTY, (4,), ((0,), (0,) * 33)))
        for number in (TOP + 1, -1):
            self.bad(put(EMPTY, (4,), ((number,),)))
            self.bad(put(EMPTY, (4,), ((0, 1, number),)))
        self.bad(put(EMPTY, (4,), ([0],)))
        self.bad(put(EMPTY, (4,), (0,)))

    def test_rows_at_most_3000(self):
        self.good(put(EMPTY, (1,), (("number", 1, 0),) * 3000))
        self.bad(put(EMPTY, (1,), (("number", 1, 0),) * 3001))
        chained = [("number", 1, 0)] + [("not", 1, at) for at in range(2999)]
        self.good(put(EMPTY, (1,), tuple(chained)))
        self.bad(put(EMPTY, (1,), (*chained, ("not", 1, 2999))))

    def test_rows_that_are_led_to(self):
        many = len(ROWS)
        for row, good in ((0, True), (many - 1, True), (many, False), (-1, False), (3000, False), (2 ** 70, False)):
            self.told(put(NET, (2, 0, 1), row), good)
            self.told(put(NET, (5, 0, 3), row), good)
        for row, (_, width, *_) in enumerate(ROWS):
            self.told(put(NET, (3, 0, 3), row), width == 8)
            self.told(put(NET, (3, 1, 3), row), width == 1)
            self.told(put(NET, (5, 0, 3), row), True)
            self.told(put(NET, (5, 0, 4), row), width == 8)
            self.told(put(NET, (5, 1, 4), row), width == 64)
            self.told(put(NET, (5, 0, 5), row), width == 1)
            self.told(put(NET, (2, 0, 1), row), True)
        for group, at in ((3, 3), (5, 4), (5, 5)):
            for row in (many, -1, -2, 3000):
                self.bad(put(NET, (group, 0, at), row))

    def test_no_rows_to_lead_to(self):
        self.bad(put(EMPTY, (2,), (("s", 0),)))
        self.bad(put(EMPTY, (3,), (("r", 8, 0, 0),)))
        self.bad(put(EMPTY, (5,), (("m", 8, 4, 0, 0, 0),)))

    def test_doors_out_may_lead_to_one_row(self):
        self.good(put(put(EMPTY, (1,), (("number", 1, 0),)), (2,), (("s", 0), ("t", 0), ("", 0))))


class TestRows(Nets):
    # Rows of the widths 1, 8, 63 and 64 to ask.
    AHEAD = (("number", 1, 0), ("number", 8, 0), ("number", 63, 0), ("number", 64, 0), ("number", 8, 1))

    def after(self, row, good):
        """Whether a row may stand behind these."""
        self.told((INS, (*self.AHEAD, row), (), (), TABLES, ()), good)

    def test_doors_in(self):
        for width, k, good in ((8, 0, True), (1, 1, True), (64, 2, True), (8, 1, False), (7, 0, False), (9, 0, False),
                               (8, 3, False), (8, -1, False), (8, -3, False), (8, 2 ** 70, False)):
            self.after(("in", width, k), good)
        self.bad(put(EMPTY, (1,), (("in", 8, 0),)))

    def test_doors_in_of_other_places(self):
        for at, row in enumerate(ROWS):
            if row[0] in ("in", "rest", "table", "memory"):
                for k in (-1, -2, 3, 4, 2 ** 70):
                    self.bad(put(NET, (1, at, 2), k))

    def test_rests_and_memories(self):
        for k, width, good in ((0, 8, True), (1, 1, True), (0, 1, False), (1, 8, False), (2, 8, False), (2, 1, False), (-1, 1, False),
                               (0, 7, False), (0, 9, False)):
            self.told((INS, ROWS + (("rest", width, k),), OUTS, RESTS, TABLES, MEMORIES), good)
        for k, width, good in ((0, 8, True), (1, 64, True), (0, 64, False), (1, 8, False), (2, 8, False), (-1, 64, False),
                               (0, 7, False), (1, 63, False)):
            for place in (0, 1, 13, 15):
                self.told((INS, ROWS + (("memory", width, k, place),), OUTS, RESTS, TABLES, MEMORIES), good)
            for place in (16, 17, -1):
                self.bad((INS, ROWS + (("memory", width, k, place),), OUTS, RESTS, TABLES, MEMORIES))

    def test_numbers(self):
        for width in (1, 2, 8, 63, 64):
            for number, good in ((0, True), (1, True), (2 ** width - 1, True), (2 ** width, False), (-1, False)):
                self.after(("number", width, number), good)
        for width in (0, -1, 65, 128):
            self.after(("number", width, 0), False)

    def test_rows_ahead_alone(self):
        five = len(self.AHEAD)
        for at in (five, five + 1, five + 2, -1, -2, 3000, 2 ** 70):
            for row in (("not", 8, at), ("two", 8, "+", at, 1), ("two", 8, "+", 1, at), ("pick", 8, at, 1, 1), ("pick", 8, 0, at, 1),
                        ("pick", 8, 0, 1, at), ("cut", 8, at, 0), ("join", 16, at, 1), ("join", 16, 1, at), ("fill", 8, at),
                        ("table", 8, 0, at)):
                self.after(row, False)
        for kind in (("not", 8, 4), ("two", 8, "+", 4, 4), ("pick", 8, 0, 4, 4), ("cut", 8, 4, 0), ("join", 16, 4, 4), ("fill", 8, 4),
                     ("table", 8, 0, 4)):
            self.after(kind, True)

    def test_a_row_that_asks_a_later_one_of_its_width(self):
        rows = (("not", 8, 1), ("number", 8, 0))
        self.bad(put(EMPTY, (1,), rows))
        self.bad(put(EMPTY, (1,), (("not", 8, 0),)))
        self.good(put(EMPTY, (1,), (rows[1], ("not", 8, 0))))

    def test_nots(self):
        for at, width in enumerate((1, 8, 63, 64)):
            for told in (1, 8, 63, 64):
                self.after(("not", told, at), told == width)

    def test_two_of_one_width(self):
        for sign in ("&", "|", "^", "+", "-", "==", "<"):
            for one, one_width in enumerate((1, 8, 63, 64, 8)):
                for other, other_width in enumerate((1, 8, 63, 64, 8)):
                    for told in (1, 7, 8, 9, 63, 64):
                        wanted = 1 if sign in ("==", "<") else one_width
                        self.after(("two", told, sign, one, other), one_width == other_width and told == wanted)

    def test_picks(self):
        for test in range(5):
            for one, other in ((1, 4), (4, 1), (1, 1), (3, 3), (1, 3), (3, 1), (0, 0), (0, 1)):
                for told in (1, 8, 64):
                    widths = (1, 8, 63, 64, 8)
                    good = test == 0 and widths[one] == widths[other] == told
                    self.after(("pick", told, test, one, other), good)

    def test_cuts(self):
        for at, width in enumerate((1, 8, 63, 64)):
            for low in (0, 1, 7, 8, 62, 63, 64, 65):
                for told in (1, 2, 7, 8, 62, 63, 64):
                    self.after(("cut", told, at, low), low + told <= width)
        for low in (-1, -8, 2 ** 70, True, None, "0", [0]):
            self.after(("cut", 1, 1, low), False)

    def test_joins(self):
        widths = (1, 8, 63, 64, 8)
        for one in range(5):
            for other in range(5):
                for told in (1, 2, 9, 16, 63, 64, 65, 71, 72):
                    good = widths[one] + widths[other] == told and told <= 64
                    self.after(("join", told, one, other), good)

    def test_fills(self):
        for at, width in enumerate((1, 8, 63, 64)):
            for told in (1, 2, 7, 8, 9, 62, 63, 64):
                self.after(("fill", told, at), told >= width)
            self.after(("fill", 65, at), False)

    def test_tables(self):
        for width, k, good in ((8, 0, True), (9, 0, True), (64, 0, True), (7, 0, False), (1, 0, False), (64, 1, True), (63, 1, False),
                               (8, 2, False), (64, -1, False), (64, 2, False)):
            for place in range(5):
                self.after(("table", width, k, place), good)
        self.bad(put(EMPTY, (1,), (("number", 1, 0), ("table", 64, 0, 0))))

    def test_widths_of_rows(self):
        for row in (("in", 8, 0), ("number", 8, 0), ("not", 8, 1), ("two", 8, "+", 1, 1), ("pick", 8, 0, 1, 1), ("cut", 8, 1, 0),
                    ("join", 9, 1, 0), ("fill", 8, 1), ("table", 8, 0, 1)):
            self.after(row, True)
            for width in (0, -1, 65, -8, True, None, "8", (8,), [8], 2 ** 70):
                self.after((row[0], width, *row[2:]), False)

    def test_a_width_of_true(self):
        for row in (("in", True, 1), ("number", True, 0), ("not", True, 0), ("two", True, "+", 0, 0), ("cut", True, 1, 0)):
            self.after(row, False)
            self.after((row[0], 1, *row[2:]), True)


SAMPLE = {
    "in": (("in", 8, 3), []), "rest": (("rest", 8, 2), []), "number": (("number", 8, 255), []), "not": (("not", 8, 5), [5]),
    "two": (("two", 8, "-", 5, 2), [5, 2]), "pick": (("pick", 8, 4, 7, 2), [4, 7, 2]), "cut": (("cut", 3, 6, 1), [6]),
    "join": (("join", 16, 5, 2), [5, 2]), "fill": (("fill", 9, 5), [5]), "table": (("table", 8, 3, 6), [6]),
    "memory": (("memory", 8, 3, 6), [6]),
}


class TestAskedBy(unittest.TestCase):
    def test_each_kind(self):
        for row, asked in SAMPLE.values():
            before = copy.deepcopy(row)
            told = asked_by(row)
            self.assertEqual((told, type(told)), (asked, list))
            told.append(99)
            told[0] = 98
            self.assertEqual((asked_by(row), row), (asked, before))

    def test_a_row_twice(self):
        self.assertEqual(asked_by(("two", 8, "+", 3, 3)), [3, 3])
        self.assertEqual(asked_by(("pick", 1, 3, 3, 3)), [3, 3, 3])
        self.assertEqual(asked_by(("join", 2, 0, 0)), [0, 0])


class TestLedTo(unittest.TestCase):
    def test_each_kind(self):
        for row, asked in SAMPLE.values():
            before = copy.deepcopy(row)
            others = [number + 100 for number in asked]
            for numbers in (others, tuple(others)):
                given = copy.copy(numbers)
                told = led_to(row, numbers)
                self.assertEqual((type(told), len(told), asked_by(told)), (tuple, len(row), others))
                self.assertEqual((numbers, row), (given, before))
                self.assertEqual(led_to(told, asked), row)
            self.assertEqual(led_to(row, asked), row)

    def test_all_but_the_rows_stays(self):
        self.assertEqual(led_to(("two", 8, "-", 5, 2), [0, 1]), ("two", 8, "-", 0, 1))
        self.assertEqual(led_to(("pick", 8, 4, 7, 2), (0, 1, 2)), ("pick", 8, 0, 1, 2))
        self.assertEqual(led_to(("cut", 3, 6, 1), [1]), ("cut", 3, 1, 1))
        self.assertEqual(led_to(("not", 6, 6), [2]), ("not", 6, 2))
        self.assertEqual(led_to(("join", 5, 5, 5), [2, 3]), ("join", 5, 2, 3))
        self.assertEqual(led_to(("fill", 6, 6), [2]), ("fill", 6, 2))
        self.assertEqual(led_to(("table", 8, 3, 3), [6]), ("table", 8, 3, 6))
        self.assertEqual(led_to(("memory", 8, 3, 3), (0,)), ("memory", 8, 3, 0))
        for row in (("in", 8, 3), ("rest", 8, 2), ("number", 8, 255)):
            self.assertEqual(led_to(row, []), row)
            self.assertEqual(led_to(row, ()), row)

    def test_a_row_twice(self):
        self.assertEqual(led_to(("two", 8, "+", 3, 3), [4, 4]), ("two", 8, "+", 4, 4))
        self.assertEqual(led_to(("two", 8, "+", 3, 3), [4, 3]), ("two", 8, "+", 4, 3))
        self.assertEqual(led_to(("pick", 8, 3, 3, 3), [0, 1, 2]), ("pick", 8, 0, 1, 2))


class TestCellAt(unittest.TestCase):
    def test_cells(self):
        for cells in ([5, 0, 7], (5, 0, 7)):
            self.assertEqual([cell_at(cells, at) for at in (0, 1, 2, 3, 4, 31, 32, TOP)], [5, 0, 7, 0, 0, 0, 0, 0])
        self.assertEqual((cell_at([9], 0), cell_at([9], 1)), (9, 0))
        cells = list(range(1, 33))
        self.assertEqual((cell_at(cells, 31), cell_at(cells, 32)), (32, 0))
        self.assertEqual(cells, list(range(1, 33)))


class TestWorthOf(unittest.TestCase):
    ROWS = (("in", 8, 0), ("in", 8, 1), ("in", 1, 2), ("in", 64, 3), ("in", 64, 4), ("in", 1, 5))
    WORDS = (0xA5, 0x0F, 1, TOP, 1, 0)
    TABLES = ((5, 6, 255), (TOP,) * 32)

    def tells(self, row, word, words=None):
        words = list(self.WORDS if words is None else words)
        for given in (words, dict(enumerate(words))):
            before = copy.deepcopy(given)
            for _ in range(2):
                told = worth_of(row, given, self.ROWS, self.TABLES)
                self.assertEqual((told, type(told)), (word, int), row)
            self.assertEqual(given, before)

    def test_nots(self):
        self.tells(("not", 8, 0), 0x5A)
        self.tells(("not", 1, 2), 0)
        self.tells(("not", 1, 5), 1)
        self.tells(("not", 64, 3), 0)
        self.tells(("not", 64, 4), TOP - 1)

    def test_two(self):
        for sign in ("&", "|", "^", "+", "-", "==", "<"):
            for one, other, width in ((0, 1, 8), (1, 0, 8), (0, 0, 8), (3, 4, 64), (4, 3, 64), (2, 5, 1), (5, 2, 1), (2, 2, 1)):
                word, wide = two_worth(sign, self.WORDS[one], self.WORDS[other], width)
                self.tells(("two", wide, sign, one, other), word)
        self.tells(("two", 8, "+", 0, 1), 0xB4)
        self.tells(("two", 8, "-", 1, 0), 0x6A)
        self.tells(("two", 64, "+", 3, 4), 0)
        self.tells(("two", 1, "<", 1, 0), 1)
        self.tells(("two", 1, "==", 3, 3), 1)

    def test_picks(self):
        self.tells(("pick", 8, 2, 0, 1), 0xA5)
        self.tells(("pick", 8, 5, 0, 1), 0x0F)
        self.tells(("pick", 64, 5, 4, 3), TOP)
        self.tells(("pick", 1, 2, 2, 5), 1)

    def test_cuts(self):
        self.tells(("cut", 8, 0, 0), 0xA5)
        self.tells(("cut", 4, 0, 4), 0xA)
        self.tells(("cut", 4, 0, 0), 0x5)
        self.tells(("cut", 1, 0, 7), 1)
        self.tells(("cut", 1, 0, 6), 0)
        self.tells(("cut", 1, 3, 63), 1)
        self.tells(("cut", 63, 3, 1), 2 ** 63 - 1)
        self.tells(("cut", 64, 3, 0), TOP)

    def test_joins(self):
        self.tells(("join", 16, 0, 1), 0xA50F)
        self.tells(("join", 16, 1, 0), 0x0FA5)
        self.tells(("join", 9, 2, 1), 0x10F)
        self.tells(("join", 9, 1, 5), 0x1E)
        self.tells(("join", 9, 5, 0), 0xA5)
        self.tells(("join", 16, 1, 1), 0x0F0F)

    def test_fills(self):
        self.tells(("fill", 8, 0), 0xA5)
        self.tells(("fill", 64, 0), 0xA5)
        self.tells(("fill", 64, 2), 1)

    def test_tables(self):
        self.tells(("table", 8, 0, 2), 6)
        self.tells(("table", 8, 0, 5), 5)
        self.tells(("table", 8, 0, 0), 0)
        self.tells(("table", 64, 1, 3), 0)
        for place, number in ((1, 6), (2, 255), (3, 0)):
            self.tells(("table", 8, 0, 0), number, (place, 0, 0, 0, 0, 0))
        for place, number in ((31, TOP), (32, 0)):
            self.tells(("table", 64, 1, 0), number, (place, 0, 0, 0, 0, 0))

    def test_words_of_some_rows_alone(self):
        self.assertEqual(worth_of(("two", 8, "+", 0, 1), {0: 1, 1: 2}, self.ROWS, ()), 3)
        self.assertEqual(worth_of(("not", 8, 1), [0, 1], self.ROWS, ()), 254)

    def test_it_keeps_nothing(self):
        words = [1, 2, 0, 0, 0, 0]
        row = ("two", 8, "+", 0, 1)
        self.assertEqual(worth_of(row, words, self.ROWS, self.TABLES), 3)
        words[1] = 5
        self.assertEqual(worth_of(row, words, self.ROWS, self.TABLES), 6)


class TestManyNets(Nets):
    """Nets that are made row by row, so that they are good; then one place is put otherwise."""

    def some_net(self, choice):
        ins = tuple((f"d{k}", choice.choice((1, 2, 8, 64))) for k in range(choice.randrange(4)))
        widths = [choice.choice((1, 2, 8, 64)) for _ in range(choice.randrange(3))]
        tables = tuple(tuple(choice.randrange(4) for _ in range(choice.choice((1, 5, 32)))) for _ in range(2))
        rows = [("number", 1, 0), ("number", 8, 9), ("number", 64, TOP)]
        rows += [("in", width, k) for k, (_, width) in enumerate(ins)] + [("rest", width, k) for k, width in enumerate(widths)]
        for _ in range(choice.randrange(25)):
            rows.append(self.some_row(choice, rows))
        outs = tuple((f"o{k}", choice.randrange(len(rows))) for k in range(choice.randrange(3)))
        rests = []
        for k, width in enumerate(widths):
            rows.append(("number", width, 1))
            rests.append((f"r{k}", width, choice.randrange(2 ** width), len(rows) - 1))
        memories = (("m", 8, choice.randint(1, 32), choice.randrange(len(rows)), 1, 0),)
        return (ins, tuple(rows), outs, tuple(rests), tables, memories)

    def some_row(self, choice, rows):
        at = choice.randrange(len(rows))
        width = rows[at][1]
        like = [k for k, row in enumerate(rows) if row[1] == width]
        bits = [k for k, row in enumerate(rows) if row[1] == 1]
        low = choice.randrange(width)
        made = [("not", width, at), ("two", width, choice.choice("&|^+-"), at, choice.choice(like)),
                ("two", 1, choice.choice(("==", "<")), choice.choice(like), at), ("fill", choice.randint(width, 64), at),
                ("pick", width, choice.choice(bits), at, choice.choice(like)), ("table", choice.choice((2, 64)), 1, at),
                ("memory", 8, 0, at), ("cut", choice.randint(1, width - low), at, low)]
        if width < 64:
            made.append(("join", width + 1, at, choice.choice(bits)))
        return choice.choice(made)

    def test_many(self):
        choice = random.Random(12)
        for _ in range(300):
            net = self.some_net(choice)
            before = copy.deepcopy(net)
            self.good(net)
            self.assertEqual(net, before)
            spots = [path for path in paths(net) if path]
            path = choice.choice(spots)
            now = at_path(net, path)
            for thing in (None, True, [], -1, 2 ** 70, b"", [now], list(now) if isinstance(now, tuple) else (now,)):
                self.bad(put(net, path, thing))


class TestPlace(unittest.TestCase):
    def test_place(self):
        for thing in (is_net, need_net, asked_by, led_to, cell_at, worth_of):
            self.assertEqual(thing.__module__, "wireyard.nets")


if __name__ == "__main__":
    unittest.main()
