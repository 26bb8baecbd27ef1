import copy
import itertools
import random
import unittest

from going import YARD, text
from refusing import refusal
from sound import Model, some_doors, sound_yards
from test_looking import FAULTS, with_faults
from wireyard.errors import BadDoors, BadTrace, YardError
from wireyard.plain import Plain
from wireyard.reading import read
from wireyard.traces import played, trace_in, trace_of, trace_text

TOP = 2 ** 64 - 1
TRACE = (
    ((("a", 5), ("b", 0)), (("s", 5),)),
    ((("a", 5), ("b", 1)), (("s", 6),)),
    ((("a", 5), ("b", 1)), (("s", 6),)),
    ((("a", 5), ("b", 1)), (("s", 7),)),
    ((("a", 0), ("b", 0)), (("s", 7),)),
    ((("a", 0), ("b", 0)), (("s", 7),)),
    ((("a", 0), ("b", 0)), (("s", 7),)),
    ((("a", 0), ("b", 0)), (("s", 7),)),
    ((("a", 1), ("b", 0)), (("s", 1),)),
)
TEXT = "a=5 b=0 > s=5\nb=1 > s=6\n>\n> s=7\na=0 b=0 >\n> 3\na=1 > s=1"


def written(trace):
    """The text of a trace by the words of 111."""
    rows = []
    for at, (doors, outs) in enumerate(trace):
        if at and trace[at] == trace[at - 1]:
            rows.append(1)
            continue
        sides = []
        for pairs, ahead in zip((doors, outs), trace[at - 1] if at else ((), ())):
            sides.append([f"{name}={word}" for name, word in pairs if dict(ahead).get(name) != word])
        rows.append(" ".join([*sides[0], ">", *sides[1]]))
    told = []
    for row, same in itertools.groupby(rows):
        many = len(list(same))
        told += [row] * many if row != 1 else [">" if many == 1 else f"> {many}"]
    return "\n".join(told)


def some_trace(choice, most=30):
    names = ["a", "b", "c1", "x2345678", "s", "u"]
    sides = [choice.sample(names, choice.randrange(4)) for _ in range(2)]
    words = choice.choice(((0, 1), (0, 5, 10, TOP)))
    trace = []
    for _ in range(choice.randrange(most)):
        if trace and choice.randrange(3) == 0:
            trace.append(trace[-1])
        else:
            trace.append(tuple(tuple((name, choice.choice(words)) for name in side) for side in sides))
    return tuple(trace)


class Traces(unittest.TestCase):
    def reads(self, text, trace):
        for _ in range(2):
            told = trace_in(text)
            self.assertEqual(told, trace)
            self.assertIs(type(told), tuple)
        self.assertEqual(trace_text(trace), text)

    def refuses(self, text, at):
        for _ in range(2):
            with self.assertRaises(BadTrace) as caught:
                trace_in(text)
            error = caught.exception
            self.assertEqual((type(error), BadTrace.__bases__, error.at), (BadTrace, (YardError,), at), text)


class TestTexts(Traces):
    def test_the_trace(self):
        self.reads(TEXT, TRACE)

    def test_no_beats(self):
        self.reads("", ())

    def test_no_names(self):
        beat = ((), ())
        for many, text in ((1, ">"), (2, ">\n>"), (3, ">\n> 2"), (4, ">\n> 3"), (200, ">\n> 199")):
            self.reads(text, (beat,) * many)

    def test_no_doors_and_no_outs(self):
        self.reads("a=0 >\na=1 >\n>\na=0 >", tuple(((("a", word),), ()) for word in (0, 1, 1, 0)))
        self.reads("> s=0\n> s=1\n>\n> s=0", tuple(((), (("s", word),)) for word in (0, 1, 1, 0)))

    def test_a_door_and_an_out_of_one_name(self):
        self.reads("s=0 > s=0\ns=1 >\n> s=1\ns=0 > s=0", tuple(((("s", one),), (("s", other),)) for one, other in ((0, 0), (1, 0), (1, 1), (0, 0))))

    def test_words(self):
        for word in (0, 1, 9, 10, 2 ** 63, TOP - 1, TOP):
            self.reads(f"a={word} > x2345678={word}", (((("a", word),), (("x2345678", word),)),))

    def test_rows_alike(self):
        beat, other = ((("a", 1),), (("s", 2),)), ((("a", 1),), (("s", 3),))
        for many, row in ((1, "\n>"), (2, "\n> 2"), (3, "\n> 3"), (10, "\n> 10"), (198, "\n> 198")):
            self.reads("a=1 > s=2" + row, (beat,) * (many + 1))
            self.reads("a=1 > s=2" + row + "\n> s=3", (beat,) * (many + 1) + (other,))

    def test_rows_that_go_back_and_forth(self):
        one, other = ((("a", 1),), (("s", 2),)), ((("a", 0),), (("s", 2),))
        self.reads("a=1 > s=2\na=0 >\na=1 >\n>\na=0 >\n> 2", (one, other, one, one, other, other, other))

    def test_200_beats(self):
        for many in (199, 200):
            trace = tuple(((("a", at % 2),), (("s", at),)) for at in range(many))
            self.reads("\n".join(["a=0 > s=0"] + [f"a={at % 2} > s={at}" for at in range(1, many)]), trace)

    def test_many_traces(self):
        choice = random.Random(51)
        for _ in range(500):
            trace = some_trace(choice)
            before = copy.deepcopy(trace)
            self.assertEqual(trace_text(trace), written(trace))
            self.assertEqual(trace_text(trace), trace_text(before))
            self.reads(written(trace), trace)


class TestTextsThatAreNone(Traces):
    def test_no_text(self):
        for thing in (None, True, 5, b"", b"a=1 >", [], ["a=1 >"], (), TRACE, {}, object(), str, {"a"}):
            self.refuses(thing, None)

    def test_first_rows(self):
        self.refuses("\na=1 > s=2", 0)
        for row in (" ", "a=1", "a", "=", "a=1 b=2", "a=1  > s=2", " a=1 > s=2", "a=1 > s=2 ", "a=1 >  s=2", "a=1 >s=2", "a=1> s=2",
                    "a=1 > > s=2", "> >", "a=1 >> s=2", "a = 1 > s=2", "a= > s=2", "=1 > s=2", "a=1=1 > s=2", "a==1 > s=2",
                    "a=01 > s=2", "a=00 > s=2", "a=+1 > s=2", "a=-1 > s=2", "a=1. > s=2", "a=x > s=2", "a=1_0 > s=2",
                    f"a={TOP + 1} > s=2", "a=99999999999999999999 > s=2", "a=100000000000000000000 > s=2", "a=" + "9" * 5000 + " >",
                    "a=1 a=1 > s=2", "a=1 b=2 a=3 >", "> s=1 s=2", "A=1 > s=2", "1a=1 >", "a_b=1 >", "x23456789=1 >", "in=1 >", "> let=1",
                    "part=1 > s=2", "a.b=1 >", "a=1\t> s=2", "a=1 > s=2\r", "> 2", "> 1", "> 0", "> 02", "> 200", "> x", "2", "> -2",
                    "2 >", "a=1 > 2", "a=1 > s=2 2", "> s = 2", ">=1", "> >=1", "<", "a=1 < s=2"):
            self.refuses(row, 0)
            self.refuses(row + "\na=1 > s=2", 0)

    def test_later_rows(self):
        head = "a=1 b=2 > s=3 t=4"
        for row in ("", " ", "a=0", "b=3 a=0 >", "> t=5 s=6", "a=0 a=2 >", "> s=4 s=5", "c=1 >", "> u=1", "s=4 >", "> a=0", "a=1 >",
                    "a=0 b=2 >", "> s=3", "> s=3 t=5", "a=1 b=2 > s=3 t=4", f"a={TOP + 1} >", "a=00 >", "> s=04", " >", "> ", ">  2",
                    "> 2 ", "a=0 > ", " a=0 >", "a=0  >", "> 1", "> 0", "> 02", "> +2", "> 2 2", "2 >", "> 2 > 2", "> 200", "> 1000",
                    "> 99999999999999999999", "> 999999999999999999999", "> " + "9" * 5000, "a=0 > 2", ">>", "> >", "a=0 b=0", "in=1 >",
                    "A=0 >", "> s", "> s=", "> =4", "a=0 > s=4=5", "> -2", "> two", "b=2 a=0 >", "a=0 >\t"):
            self.refuses(head + "\n" + row, 1)
            self.refuses(head + "\n" + row + "\n>", 1)

    def test_counts(self):
        head = "a=1 > s=3"
        for rows, at in ((">\n>", 2), (">\n> 2", 2), ("> 2\n>", 2), ("> 2\n> 2", 2), ("> 2\n> 3\n>", 2), ("> 1", 1), ("> 198\n>\na=0 >", 2),
                         ("> 2\na=0 >\n>\n>", 4), ("a=0 >\n> 2\n> 2", 3), (">\na=0 >\n> 1", 3)):
            self.refuses(head + "\n" + rows, at)
        for rows in (">", "> 2", ">\na=0 >\n>", "> 2\na=0 >\n> 2", "> 2\n> s=4\n>"):
            self.assertEqual(trace_text(trace_in(head + "\n" + rows)), head + "\n" + rows)
        for rows, at in ((">\n>\n>", 2), (">\n> 2\n>", 2), (">\n>\n> 2", 2), ("> 2", 0), (">\n> 1", 1)):
            self.refuses(rows, at)

    def test_line_ends_at_the_ends(self):
        for text, at in (("\n", 0), (TEXT + "\n", 7), ("\n" + TEXT, 0), ("a=1 >\n", 1), (">\n\n>", 1), (TEXT.replace("\n", "\r\n"), 0),
                         (TEXT + "\n\n", 7), ("\n\n", 0)):
            self.refuses(text, at)

    def test_more_than_200_beats(self):
        rows = ["a=0 >"] + [f"a={at % 2} >" for at in range(1, 202)]
        self.assertEqual(len(trace_in("\n".join(rows[:200]))), 200)
        self.refuses("\n".join(rows[:201]), 200)
        self.refuses("\n".join(rows), 200)
        self.assertEqual(len(trace_in("a=0 >\n> 199")), 200)
        self.refuses("a=0 >\n> 200", 1)
        self.refuses("a=0 >\n> 199\na=1 >", 2)
        self.refuses("a=0 >\n> 198\na=1 >\n>", 3)
        self.refuses("\n".join(rows[:200] + [">"]), 200)
        self.refuses("\n".join(rows[:199] + ["> 2"]), 199)
        self.assertEqual(len(trace_in("\n".join(rows[:198] + ["> 2"]))), 200)

    def test_all_texts_of_a_few_words(self):
        """What is read, and up to which row a text goes on, held against all traces of up to five beats."""
        heads = set()
        for doors, outs in (((), ()), (("a",), ()), ((), ("s",)), (("a",), ("s",))):
            kinds = [tuple(zip(doors, words)) for words in itertools.product((0, 1), repeat=len(doors))]
            beats = list(itertools.product(kinds, [tuple(zip(outs, words)) for words in itertools.product((0, 1), repeat=len(outs))]))
            for many in range(6):
                for trace in itertools.product(beats, repeat=many):
                    heads.add(tuple(written(trace).split("\n")) if trace else ())
        choice = random.Random(52)
        starts = sorted(heads)
        read_ones = 0
        for _ in range(20000):
            rows = list(choice.choice(starts))
            if choice.randrange(3):
                doors = [choice.choice(("a=0", "a=1", "a=01", "a", "")) for _ in range(choice.choice((0, 1, 1, 2)))]
                outs = [choice.choice(("s=0", "s=1", "2", "3", "")) for _ in range(choice.choice((0, 1, 1, 2)))]
                rows.append(" ".join(doors + [">"] * choice.choice((1, 1, 1, 1, 0, 2)) + outs))
            if choice.randrange(3) == 0 and rows:
                rows[choice.randrange(len(rows))] = choice.choice((">", "> 2", "a=0 >", "a=1 >", "> s=1", "a=0 > s=0"))
            rows = rows[:4]
            text = "\n".join(rows)
            wrong = [at for at in range(len(rows)) if tuple(rows[:at + 1]) not in heads]
            if text == "":
                self.assertEqual(trace_in(text), ())
            elif wrong and sum(int(row[2:]) if row[2:].isdigit() else 1 for row in rows) <= 5:
                self.refuses(text, wrong[0])
            elif not wrong:
                read_ones += 1
                self.assertEqual(written(trace_in(text)), text)
        self.assertGreater(read_ones, 1000)


class TestNoTraces(Traces):
    def no_trace(self, thing):
        for _ in range(2):
            with self.assertRaises(BadTrace) as caught:
                trace_text(thing)
            self.assertEqual((type(caught.exception), caught.exception.at), (BadTrace, None))
            with self.assertRaises(BadTrace) as caught:
                played(read(YARD), thing)
            self.assertIsNone(caught.exception.at)

    def test_other_kinds(self):
        for thing in (None, True, 0, 5, "", "a=1 >", b"", [], list(TRACE), {}, set(), object(), tuple, ((),), (None,), (5,), ("ab",), ("",),
                      [()], ([(), ()],), (((), (), ()),), (((),),), ({},), (((), []),), (([], ()),), (((), None),), ((("a", 1), ()),),
                      (((("a", 1),), "s"),), iter(()), range(0)):
            self.no_trace(thing)

    def test_pairs(self):
        good = ((("a", 1),), (("s", 2),))
        self.assertEqual(trace_text((good,)), "a=1 > s=2")
        for pair in (("a",), ("a", 1, 1), ["a", 1], "a1", None, ("a", -1), ("a", TOP + 1), ("a", True), ("a", None), ("a", "1"), ("a", (1,)),
                     ("", 1), ("A", 1), ("1a", 1), ("a_", 1), ("a b", 1), ("in", 1), ("fill", 1), ("a23456789", 1), (None, 1), (1, 1), (b"a", 1),
                     (("a",), 1), (["a"], 1), (1, "a"), (), {"a": 1}, {"a", "b"}):
            for beat in (((pair,), ()), ((), (pair,)), ((pair, ("b", 1)), ()), ((), (("b", 1), pair))):
                self.no_trace((beat,))
                self.no_trace((good, good, beat))

    def test_names_of_all_beats(self):
        one = ((("a", 1), ("b", 2)), (("s", 3), ("t", 4)))
        for other in (((("b", 2), ("a", 1)), one[1]), (one[0], (("t", 4), ("s", 3))), ((("a", 1),), one[1]), (one[0], ()), ((), one[1]),
                      (one[0] + (("c", 1),), one[1]), (one[1], one[0]), ((("a", 1), ("c", 2)), one[1]), (one[0], (("s", 3), ("a", 4)))):
            self.no_trace((one, other))
            self.no_trace((one, one, other, one))
            self.assertEqual(trace_in(trace_text((other,))), (other,))
        for twice in (((("a", 1), ("a", 1)), ()), ((), (("s", 1), ("t", 1), ("s", 2)))):
            self.no_trace((twice,))

    def test_201_beats(self):
        for many in (199, 200):
            self.assertEqual(len(trace_in(trace_text(TRACE[:1] * many))), many)
        for many in (201, 300):
            self.no_trace(TRACE[:1] * many)


class TestOfYards(unittest.TestCase):
    def test_the_yard(self):
        beats = [{"a": 1, "go": 1}, {"go": 0, "a": 1}, {"go": 1, "a": 3}]
        before = copy.deepcopy(beats)
        yard = read(YARD)
        for _ in range(2):
            trace = trace_of(yard, beats)
            self.assertEqual(trace, (
                ((("a", 1), ("go", 1)), (("t", 1), ("s", 3))),
                ((("a", 1), ("go", 0)), (("t", 0), ("s", 203))),
                ((("a", 3), ("go", 1)), (("t", 1), ("s", 3))),
            ))
        self.assertEqual((beats, yard), (before, read(YARD)))
        self.assertIsNone(played(yard, trace))
        beats[0]["a"] = 2
        self.assertEqual(trace[0][0], (("a", 1), ("go", 1)))

    def test_no_beats_no_doors(self):
        self.assertEqual(trace_of(read(YARD), []), ())
        self.assertIsNone(played(read(YARD), ()))
        yard = text("part p", "table t 8: 1")
        self.assertEqual(trace_of(yard, [{}, {}]), (((), ()),) * 2)
        self.assertIsNone(played(yard, (((), ()),) * 2))

    def test_many_yards(self):
        choice = random.Random(53)
        for yard in sound_yards(150, 54):
            model, beats, wanted = Model(yard), [], []
            for _ in range(choice.randrange(12)):
                doors = some_doors(choice, yard, beats[-1] if beats else {})
                items = list(doors.items())
                outs = model.beat(doors)
                wanted.append((tuple(items), tuple(outs.items())))
                choice.shuffle(items)
                beats.append(dict(items))
            trace = trace_of(yard, beats)
            self.assertEqual(trace, tuple(wanted))
            self.assertEqual(trace_in(trace_text(trace)), trace)
            self.assertIsNone(played(yard, trace))
            for at, (doors, outs) in enumerate(trace):
                if outs:
                    name, word = outs[-1]
                    other = trace[:at] + ((doors, outs[:-1] + ((name, word ^ 1),)),) + trace[at + 1:]
                    self.assertEqual(played(yard, other), at)

    def test_200_beats(self):
        yard = text("part p", "in a 8", "out s 8", "rest r 8 0 = r + a", "let s = r")
        trace = trace_of(yard, [{"a": 1}] * 200)
        self.assertEqual(trace[199], ((("a", 1),), (("s", 199),)))
        self.assertIsNone(played(yard, trace))
        self.assertEqual(len(trace_text(trace).split("\n")), 200)

    def test_refused_as_looked(self):
        for fault in FAULTS:
            yard = with_faults(fault)
            # The yard is refused ahead of all else.
            for given in (lambda: trace_of(yard, []), lambda: trace_of(yard, [None]), lambda: played(yard, ()), lambda: played(yard, None)):
                with self.assertRaises(YardError) as caught:
                    given()
                error = caught.exception
                self.assertEqual((type(error), list(vars(error).values())), refusal(yard))

    def test_refused_as_beat(self):
        good = {"a": 1, "go": 1}
        for bad in ({}, {"a": 1}, {"a": 256, "go": 1}, {"a": 1, "go": True}, {**good, "b": 1}, None, 5, [good], "a", (("a", 1), ("go", 1))):
            for beats in ([bad], [good, bad], [bad, good], [good, good, bad, good]):
                with self.assertRaises(BadDoors) as caught:
                    trace_of(read(YARD), beats)
                self.assertEqual(type(caught.exception).__bases__, (YardError,))
        for beats in (None, 5, True, "ab", (good,), {"a": 1}, object()):
            with self.assertRaises(BadDoors):
                trace_of(read(YARD), beats)
        bad = {"a": 1, "go": 2}
        beats = [good, bad]
        with self.assertRaises(BadDoors):
            trace_of(read(YARD), beats)
        self.assertEqual(beats, [{"a": 1, "go": 1}, {"a": 1, "go": 2}])
        bad["go"] = 1
        self.assertEqual(len(trace_of(read(YARD), beats)), 2)


class TestPlayed(unittest.TestCase):
    LINES = ("part p", "in a 4", "in b 4", "out s 4", "out t 4", "rest r 4 0 = r + 1:4", "let s = a + r", "let t = b")

    def trace(self, *beats):
        return trace_of(text(*self.LINES), [{"a": a, "b": b} for a, b in beats])

    def played(self, trace):
        before = copy.deepcopy(trace)
        yard = text(*self.LINES)
        told = played(yard, trace)
        self.assertEqual(played(yard, trace), told)
        self.assertEqual((trace, yard), (before, text(*self.LINES)))
        return told

    def test_no_other_beat(self):
        trace = self.trace((1, 2), (1, 2), (3, 4))
        self.assertIsNone(self.played(trace))
        # Doors in another order are just the yard's, too.
        turned = tuple((tuple(reversed(doors)), outs) for doors, outs in trace)
        self.assertIsNone(self.played(turned))

    def test_the_first_other_beat(self):
        trace = self.trace((1, 2), (1, 2), (3, 4), (3, 4))
        for at in range(4):
            doors, outs = trace[at]
            other = trace[:at] + ((doors, (outs[0], ("t", outs[1][1] ^ 8))),) + trace[at + 1:]
            self.assertEqual(self.played(other), at)
            self.assertIs(type(self.played(other)), int)
            for later in range(at, 4):
                both = other[:later] + ((other[later][0], (("s", 99), ("t", 99))),) + other[later + 1:]
                self.assertEqual(self.played(both), at)

    def test_other_names_and_another_order(self):
        trace = self.trace((1, 2), (1, 2))
        for change in (lambda outs: outs[::-1], lambda outs: outs[:1], lambda outs: outs + (("u", 0),), lambda outs: (),
                       lambda outs: (outs[0], ("u", outs[1][1])), lambda outs: (("t", outs[0][1]), ("s", outs[1][1]))):
            self.assertEqual(self.played(tuple((doors, change(outs)) for doors, outs in trace)), 0)

    def test_bad_doors(self):
        outs = (("s", 1), ("t", 2))
        for doors in ((("a", 1),), (("a", 16), ("b", 2)), (("a", 1), ("b", 2), ("c", 3)), (("a", 1), ("c", 2)), (), (("a", TOP), ("b", 2))):
            with self.assertRaises(BadDoors) as caught:
                self.played(((doors, outs),))
            self.assertEqual(type(caught.exception).__bases__, (YardError,))

    def test_bad_doors_only_where_no_beat_ahead_was_other(self):
        good, bad = ((("a", 1), ("b", 2)), (("s", 1), ("t", 2))), ((("a", 16), ("b", 2)), (("s", 1), ("t", 2)))
        wrong = (good[0], (("s", 9), ("t", 2)))
        self.assertEqual(self.played((wrong, bad)), 0)
        for trace in ((good, bad), (bad, wrong), (bad, good)):
            with self.assertRaises(BadDoors):
                self.played(trace)
        self.assertEqual(self.played((good, wrong, bad)), 1)

    def test_bad_trace_ahead_of_bad_doors(self):
        bad = ((("a", 16), ("b", 2)), (("s", 1), ("t", 2)))
        for trace in ((bad, None), (bad, bad[::-1]), [bad], (bad,) * 201):
            with self.assertRaises(BadTrace) as caught:
                self.played(trace)
            self.assertIsNone(caught.exception.at)

    def test_places(self):
        for thing in (trace_of, trace_text, trace_in, played):
            self.assertEqual(thing.__module__, "wireyard.traces")
        self.assertEqual(Plain.__module__, "wireyard.plain")


if __name__ == "__main__":
    unittest.main()
