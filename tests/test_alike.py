import copy
import random
import unittest

from going import text
from netmaking import all_words, first_state, next_of, small_nets
from test_nets import EMPTY, NET, ODD, paths, put
from wireyard.alike import alike
from wireyard.choices import Told, number_word
from wireyard.diagrams import Diagrams
from wireyard.errors import BadNet, TooMany, YardError
from wireyard.fewer import fewer
from wireyard.flat import flat


def by_all_words(net, other):
    """Goes through all states and all words of the doors: the least count of beats, or how many lead to each pair."""
    first = (first_state(net), first_state(other))
    beats = {first: 0}
    left = [first]
    for pair in left:
        after = []
        for doors in all_words(net):
            told, state = next_of(net, pair[0], doors)
            other_told, other_state = next_of(other, pair[1], doors)
            if told != other_told:
                return beats[pair] + 1
            after.append((state, other_state))
        for states in after:
            if states not in beats:
                beats[states] = beats[pair] + 1
                left.append(states)
    return beats


def put_otherwise(choice, net):
    """The same net with a row that tells something else."""
    rows = list(net[1])
    for at in choice.sample(range(len(rows)), len(rows)):
        row = rows[at]
        if row[0] == "number":
            rows[at] = ("number", row[1], choice.randrange(2 ** row[1]))
        elif row[0] == "two":
            signs = ("==", "<") if row[2] in ("==", "<") else ("&", "|", "^", "+", "-")
            rows[at] = (*row[:2], choice.choice(signs), *row[3:])
        elif row[0] == "pick":
            rows[at] = (*row[:3], row[4], row[3])
        else:
            continue
        return (net[0], tuple(rows), *net[2:])
    return net


class Alikes(unittest.TestCase):
    def net(self, *lines):
        return flat(text("part p", *lines))

    def told(self, net, other):
        before = copy.deepcopy((net, other))
        told = alike(net, other)
        self.assertEqual((net, other), before)
        self.assertEqual(alike(net, other), told)
        self.assertIs(type(told), tuple)
        return told

    def is_alike(self, net, other, many=None):
        kind, pairs = self.told(net, other)
        self.assertEqual((kind, type(pairs)), ("alike", tuple))
        beats = by_all_words(net, other)
        self.assertIsInstance(beats, dict)
        self.assertEqual(sorted(pairs), sorted(beats))
        self.assertEqual(pairs[0], (first_state(net), first_state(other)))
        order = [beats[pair] for pair in pairs]
        self.assertEqual(order, sorted(order))
        if many is not None:
            self.assertEqual(len(pairs), many)
        return pairs

    def is_apart(self, net, other, many=None):
        kind, beats = self.told(net, other)
        self.assertEqual((kind, type(beats)), ("apart", tuple))
        states = [first_state(net), first_state(other)]
        for at, beat in enumerate(beats):
            self.assertIs(type(beat), tuple)
            self.assertEqual([name for name, _ in beat], [name for name, _ in net[0]])
            for (_, word), (_, width) in zip(beat, net[0]):
                self.assertIs(type(word), int)
                self.assertTrue(0 <= word < 2 ** width)
            told = [next_of(one, state, dict(beat)) for one, state in zip((net, other), states)]
            self.assertEqual(told[0][0] != told[1][0], at == len(beats) - 1)
            states = [state for _, state in told]
        self.assertEqual(len(beats), by_all_words(net, other))
        if many is not None:
            self.assertEqual(len(beats), many)
        return beats


class TestAlike(Alikes):
    def test_a_net_and_itself(self):
        net = self.net("in a 2", "rest r 2 1 = r + a", "out s 2", "let s = r")
        pairs = self.is_alike(net, net, 4)
        self.assertEqual(pairs[0], (((1,), ()), ((1,), ())))
        self.assertEqual(sorted(pairs), [(((word,), ()), ((word,), ())) for word in range(4)])

    def test_other_rows(self):
        one = self.net("in a 3", "in b 3", "out s 3", "let s = a - b")
        other = self.net("in a 3", "in b 3", "out s 3", "let s = a + (~b + 1:3)")
        self.assertEqual(self.is_alike(one, other, 1), ((((), ()), ((), ())),))

    def test_other_rests(self):
        # A ring of one bit that goes round, beside a number that counts.
        one = self.net("in go 1", "out s 1", "rest a 1 1 = if go then c else a", "rest b 1 0 = if go then a else b",
                       "rest c 1 0 = if go then b else c", "let s = a")
        other = self.net("in go 1", "out s 1", "rest n 2 0 = if go then (if n == 2:2 then 0:2 else n + 1:2) else n", "let s = n == 0:2")
        self.is_alike(one, other, 3)
        self.is_alike(other, one, 3)

    def test_pairs_of_states(self):
        # The second net's rest comes to two words while the first one's stays.
        one = self.net("in a 1", "out s 1", "rest r 2 3 = r", "let s = a")
        other = self.net("in a 1", "out s 1", "rest q 1 0 = a", "memory m 2 2: 0:1, fill(q, 2), 1:1", "let s = a & a")
        pairs = self.is_alike(one, other)
        self.assertEqual(pairs[0], (((3,), ()), ((0,), ((0, 0),))))
        self.assertIn((((3,), ()), ((1,), ((1, 0),))), pairs)
        self.assertEqual(len(pairs), 4)

    def test_rests_and_cells_as_they_are_told(self):
        one = self.net("in a 2", "memory m 1 3: a, r, 1:1", "rest r 1 1 = cut(a, 0, 1)", "memory n 2 2: cut(a, 0, 1), a, cut(a, 1, 1)",
                       "rest k 2 2 = k", "out s 2", "let s = n[r]")
        pairs = self.is_alike(one, one)
        self.assertEqual(pairs[0][0], ((1, 2), ((0, 0, 0), (0, 0))))
        self.assertIn(((0, 2), ((0, 0, 1), (2, 0))), [pair[0] for pair in pairs])

    def test_no_doors_no_outs_no_state(self):
        self.assertEqual(self.is_alike(EMPTY, EMPTY), ((((), ()), ((), ())),))
        one = self.net("out s 8", "let s = 5:8 + 6:8")
        self.is_alike(one, self.net("out s 8", "let s = 11:8"), 1)
        one = self.net("rest r 2 0 = r + 1:2")
        self.is_alike(one, EMPTY, 4)
        self.is_alike(one, self.net("rest r 2 0 = r - 1:2"), 4)
        self.is_alike(self.net("in a 1", "rest r 1 0 = a"), self.net("in a 1", "rest r 1 0 = ~a"), 3)

    def test_what_can_not_come_about_is_no_matter(self):
        one = self.net("in a 2", "out s 2", "rest r 2 0 = if a == 0:2 then 0:2 else 1:2", "let s = r + r")
        other = self.net("in a 2", "out s 2", "rest r 2 0 = if a == 0:2 then 0:2 else 1:2",
                         "let s = join(cut(r, 0, 1), 0:1)")
        self.is_alike(one, other, 2)

    def test_small_nets_beside_themselves_made_fewer(self):
        for net in small_nets(200, 41):
            if len(by_all_words(net, net)) <= 300:
                self.is_alike(net, fewer(net))
                self.is_alike(fewer(net), net)


class TestApart(Alikes):
    def test_at_the_first_beat(self):
        one = self.net("in a 8", "out s 1", "let s = a == 77:8")
        other = self.net("in a 8", "out s 1", "let s = 0:1")
        self.assertEqual(self.is_apart(one, other, 1), ((("a", 77),),))

    def test_by_one_word_of_one_of_two_doors_out(self):
        one = self.net("in a 3", "in b 2", "out s 3", "out t 5", "let s = a", "let t = join(a, b)")
        other = self.net("in a 3", "in b 2", "out s 3", "out t 5", "let s = a", "let t = if a == 6:3 then 27:5 else join(a, b)")
        # 27 is 6 and 3 joined: all other words of b part them.
        beats = self.is_apart(one, other, 1)
        self.assertEqual((beats[0][0], beats[0][1][0]), (("a", 6), "b"))
        self.assertIn(beats[0][1][1], (0, 1, 2))

    def test_at_a_later_beat(self):
        one = self.net("out s 4", "rest r 4 0 = r + 1:4", "let s = r & 7:4")
        other = self.net("out s 4", "rest r 4 0 = r + 1:4", "let s = r")
        self.assertEqual(self.is_apart(one, other, 9), ((),) * 9)

    def test_by_a_state_that_some_beats_lead_to(self):
        lines = ("in a 2", "out s 1", "rest n 2 0 = if a == n then n + 1:2 else 0:2")
        one = self.net(*lines, "let s = 0:1")
        other = self.net(*lines, "let s = (n == 3:2) & (a == 1:2)")
        self.assertEqual(self.is_apart(one, other, 4), tuple((("a", word),) for word in (0, 1, 2, 1)))

    def test_by_first_words(self):
        one = self.net("in a 1", "rest r 2 1 = r", "out s 2", "let s = if a then r else 1:2")
        other = self.net("in a 1", "rest r 2 2 = r", "out s 2", "let s = if a then r else 1:2")
        self.assertEqual(self.is_apart(one, other, 1), ((("a", 1),),))

    def test_by_memories(self):
        lines = ("in at 2", "in v 1", "out s 1")
        one = self.net(*lines, "memory m 1 4: at, v, 1:1", "let s = m[at]")
        other = self.net(*lines, "memory m 1 3: at, v, 1:1", "let s = m[at]")
        self.assertEqual([dict(beat)["at"] for beat in self.is_apart(one, other, 2)], [3, 3])

    def test_doors_in_the_order_of_ins(self):
        one = self.net("in b 1", "in a 2", "in c 1", "out s 4", "let s = join(b, join(a, c))")
        other = self.net("in b 1", "in a 2", "in c 1", "out s 4", "let s = join(b, join(a, c)) & 15:4 ^ fill(b & c & (a == 2:2), 4)")
        self.assertEqual(self.is_apart(one, other, 1), ((("b", 1), ("a", 2), ("c", 1)),))

    def test_small_nets_put_otherwise(self):
        choice = random.Random(42)
        parted = {}
        for net in small_nets(500, 43):
            other = net
            for _ in range(choice.choice((1, 2))):
                other = put_otherwise(choice, other)
            beats = by_all_words(net, other)
            if isinstance(beats, int):
                parted[beats] = parted.get(beats, 0) + 1
                self.is_apart(net, other)
            elif len(beats) <= 300:
                self.is_alike(net, other)
        self.assertGreater(len(parted), 2, parted)


class TestBounds(Alikes):
    def refused(self, kind, net, other):
        before = copy.deepcopy((net, other)) if isinstance(net, tuple) and isinstance(other, tuple) and net and other else None
        for _ in range(2):
            with self.assertRaises(kind) as caught:
                alike(net, other)
            self.assertEqual((type(caught.exception), kind.__bases__), (kind, (YardError,)))
        if before is not None:
            self.assertEqual((net, other), before)

    def test_doors_in_of_12_bits_and_13(self):
        for widths in ((12,), (5, 7), (1,) * 12):
            lines = [f"in a{k} {width}" for k, width in enumerate(widths)]
            one = self.net(*lines, "out s 1", "let s = a0 == a0")
            kind, pairs = self.told(one, self.net(*lines, "out s 1", "let s = 1:1"))
            self.assertEqual((kind, len(pairs)), ("alike", 1))
            kind, beats = self.told(one, self.net(*lines, "out s 1", "let s = ~(a0 == 0:" + str(widths[0]) + ")"))
            self.assertEqual((kind, len(beats), beats[0][0]), ("apart", 1, ("a0", 0)))
            more = self.net(*lines, "in b 1", "out s 1", "let s = b")
            self.refused(TooMany, more, more)

    def test_all_12_bits(self):
        one = self.net("in a 12", "out s 12", "let s = a + 1365:12")
        self.assertEqual(self.told(one, self.net("in a 12", "out s 12", "let s = ~(~a - 1365:12)"))[0], "alike")
        other = self.net("in a 12", "out s 12", "let s = if a == 3000:12 then a else a + 1365:12")
        self.assertEqual(self.told(one, other), ("apart", ((("a", 3000),),)))

    def test_states_of_24_bits_and_25(self):
        twelve = self.net("rest r 8 200 = r", "memory m 2 2: 0:1, 1:2, 1:1", "out s 8", "let s = r")
        other = self.net("rest r 12 200 = r", "out s 8", "let s = cut(r, 0, 8)")
        more = self.net("rest r 8 200 = r", "rest q 5 0 = q", "out s 8", "let s = r")
        self.is_alike(twelve, other, 2)
        self.is_alike(twelve, twelve, 2)
        self.refused(TooMany, twelve, more)
        self.refused(TooMany, more, other)
        self.refused(TooMany, self.net("memory m 1 25: 0:1, 1:1, 1:1"), EMPTY)
        self.refused(TooMany, EMPTY, self.net("memory m 5 5: 0:1, 1:5, 1:1"))
        self.is_alike(self.net("memory m 1 24: 0:1, 1:1, 1:1"), EMPTY, 2)
        self.is_alike(EMPTY, self.net("memory m 6 4: 0:1, 1:6, 1:1"), 2)
        self.is_alike(self.net("rest r 24 5 = r"), EMPTY, 1)

    def test_300_pairs(self):
        one = self.net("in a 1", "rest r 12 0 = if r == 299:12 then 0:12 else r + 1:12", "out s 12", "let s = r")
        other = self.net("in a 1", "rest r 12 299 = if r == 0:12 then 299:12 else r - 1:12", "out s 12", "let s = 299:12 - r")
        self.is_alike(one, other, 300)

    def test_no_net(self):
        net = self.net("in a 1", "out s 1", "let s = a")
        for thing in ODD + (list(net), net[:5], net + ((),)):
            self.refused(BadNet, thing, net)
            self.refused(BadNet, net, thing)
            self.refused(BadNet, thing, thing)
        for path in paths(NET):
            if path:
                self.refused(BadNet, put(NET, path, None), NET)
                self.refused(BadNet, NET, put(NET, path, None))

    def test_other_doors(self):
        base = ("in a 2", "in b 2", "out s 2", "out t 2", "let s = a", "let t = b")
        net = self.net(*base)
        for lines in (
            ("in b 2", "in a 2", *base[2:]), ("in a 2", "in c 2", "out s 2", "out t 2", "let s = a", "let t = c"), ("in c 1", *base),
            ("in a 2", "in b 3", "out s 2", "out t 2", "let s = a", "let t = cut(b, 0, 2)"), ("in a 2", "in b 2"),
            ("in a 2", "in b 2", "out t 2", "out s 2", "let s = a", "let t = b"),
            ("in a 2", "in b 2", "out s 2", "out u 2", "let s = a", "let u = b"),
            ("in a 2", "in b 2", "out s 2", "out t 3", "let s = a", "let t = fill(b, 3)"),
            ("in a 2", "in b 2", "out s 2", "let s = a"),
        ):
            other = self.net(*lines)
            self.refused(BadNet, net, other)
            self.refused(BadNet, other, net)

    def test_bad_nets_ahead_of_too_many(self):
        # NET has far too many bits of both kinds.
        self.refused(TooMany, NET, NET)
        self.refused(BadNet, NET, put(NET, (0, 0, 0), "c"))
        self.refused(BadNet, NET, put(NET, (2, 0, 0), "c"))
        self.refused(BadNet, NET, EMPTY)
        self.refused(BadNet, NET, None)
        self.refused(BadNet, put(NET, (0, 0, 1), 0), NET)

    def test_many_rows_that_nobody_reads(self):
        lines = ["in a 12", "out s 1", "let s = cut(a, 3, 1)", "wire x0 64", "let x0 = fill(a, 64) + 88172645463325252:64"]
        for k in range(1, 12):
            lines += [f"wire x{k} 64", f"let x{k} = x{k - 1} ^ join(cut(x{k - 1}, 0, 51), cut(x{k - 1}, 51, 13)) + x{k - 1}"]
        net = self.net(*lines)
        self.assertEqual(self.told(net, fewer(net)), ("alike", ((((), ()), ((), ())),)))

    def test_what_is_told_of_too_many_sided_nets_is_so(self):
        lines = ["in a 12", "out s 64", "wire x0 64", "let x0 = fill(a, 64) + 88172645463325252:64", "let s = x9"]
        for k in range(1, 10):
            lines += [f"wire x{k} 64", f"let x{k} = x{k - 1} ^ join(cut(x{k - 1}, 0, 51), cut(x{k - 1}, 51, 13)) + x{k - 1}"]
        net = self.net(*lines)
        try:
            self.assertEqual(alike(net, fewer(net))[0], "alike")
        except TooMany:
            pass
        one = self.net("in a 12", "rest r 12 0 = r + a", "out s 12", "let s = r")
        try:
            self.assertEqual(alike(one, one)[0], "alike")
        except TooMany:
            pass
        # Told apart by the first beat, whatever would come later.
        self.is_apart(one, self.net("in a 12", "rest r 12 0 = r + a", "out s 12", "let s = r + a"), 1)

    def test_place(self):
        self.assertEqual(alike.__module__, "wireyard.alike")


class TestTold(unittest.TestCase):
    """A net told by knots is held against its words, the state told by knots as well."""

    def test_all_words(self):
        for net in small_nets(150, 44):
            widths = [width for _, width in net[0]]
            state_widths = [rest[1] for rest in net[3]] + [width for _, width, size, *_ in net[5] for _ in range(size)]
            diagrams = Diagrams()
            bits = iter(range(sum(widths) + sum(state_widths)))
            states = [[diagrams.bit(next(bits)) for _ in range(width)] for width in state_widths]
            doors = [[diagrams.bit(next(bits)) for _ in range(width)] for width in widths]
            stores = []
            at = len(net[3])
            for memory in net[5]:
                stores.append(states[at:at + memory[2]])
                at += memory[2]
            told = Told(diagrams, net, (states[:len(net[3])], stores), doors)
            for word in range(0, 2 ** (sum(widths) + sum(state_widths)), 3):
                words = [sum(diagrams.told(knot, word) << k for k, knot in enumerate(one)) for one in (*states, *doors)]
                rests = tuple(words[:len(net[3])])
                cells, at = [], len(net[3])
                for memory in net[5]:
                    cells.append(tuple(words[at:at + memory[2]]))
                    at += memory[2]
                given = dict(zip([name for name, _ in net[0]], words[len(states):]))
                outs, (next_rests, next_cells) = next_of(net, (rests, tuple(cells)), given)
                self.assertEqual([sum(diagrams.told(knot, word) << k for k, knot in enumerate(one)) for one in told.outs],
                                 list(outs.values()))
                after = [sum(diagrams.told(knot, word) << k for k, knot in enumerate(one)) for one in told.after]
                self.assertEqual(after, [*next_rests, *[cell for store in next_cells for cell in store]])

    def test_numbers(self):
        self.assertEqual(number_word(Diagrams(0), 5, 4), [1, 0, 1, 0])
        net = ((), (("number", 64, 2 ** 64 - 2), ("number", 64, 3), ("two", 64, "+", 0, 1), ("two", 1, "<", 1, 0)), (("s", 2), ("t", 3)),
               (), (), ())
        told = Told(Diagrams(0), net, ([], []), [])
        self.assertEqual(told.outs, [[1] + [0] * 63, [1]])
        self.assertEqual(Told.__module__, "wireyard.choices")


if __name__ == "__main__":
    unittest.main()
