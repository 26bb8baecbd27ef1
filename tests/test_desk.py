import random
import unittest

from going import YARD
from refusing import refusal
from sound import Model, sound_yards
from test_flat import term_of
from test_looking import FAULTS, with_faults
from test_traces import written
from wireyard.desk import Desk, answered
from wireyard.errors import BadLine, BadText, Lacking, YardError
from wireyard.fewer import fewer
from wireyard.flat import flat
from wireyard.reading import read
from wireyard.showing import shown

SUM = """\
part p
  in a 4
  in b 1
  out s 4
  out t 1
  rest r 4 9 = s
  memory m 4 2: fill(b, 2), a, 1:1
  let s = a + r
  let t = b
"""
NO_DOORS = "part p\nrest r 8 0 = r + 1:8"
WAYS = ("plain", "swift", "flat", "few")


def is_number(text):
    return text.isascii() and text.isdigit() and len(text) <= 20 and str(int(text)) == text


def text_of(rows):
    """A text of a yard whose net has so many rows, from 2930 on; a part that is used five times has 585 of them."""
    used = tuple(("memory", f"m{k}", ("", 1), 1, term_of(39), term_of(39), term_of(39)) for k in range(5))
    main = [("in", "a", ("", 1)), ("out", "s", ("", 1)), ("let", "s", ("name", "a"))]
    main += [("use", f"u{k}", "q", (), ()) for k in range(5)]
    main.append(("memory", "m", ("", 1), 1, term_of(39), term_of(rows - 2966), term_of(1)))
    return shown((("q", (), used), ("p", (), tuple(main))))


class DeskModel:
    """Answers by going through all beats anew at each line, by the document's words."""

    def __init__(self, text):
        self.yard = read(text)
        self.widths = {row[1]: row[2][1] for row in self.yard[-1][2] if row[0] == "in"}
        self.beats = []

    def doors(self):
        return self.beats[-1] if self.beats else {name: 0 for name in self.widths}

    def gone(self):
        model = Model(self.yard)
        return model, [model.beat(doors) for doors in self.beats]

    def answer_of_beat(self):
        return " ".join(f"{name}={word}" for name, word in self.gone()[1][-1].items()) or "-"

    def told(self, line):
        words = line.split(" ")
        if words[0] == "beat":
            given = {}
            for word in words[1:]:
                name, sign, number = word.partition("=")
                if not sign or name not in self.widths or name in given or not is_number(number):
                    return "bad doors"
                if int(number) >= 2 ** self.widths[name]:
                    return "bad doors"
                given[name] = int(number)
            if len(self.beats) == 200:
                return "too many"
            self.beats.append({**self.doors(), **given})
            return self.answer_of_beat()
        if len(words) == 2 and words[0] == "again" and is_number(words[1]) and 1 <= int(words[1]) <= 200:
            if len(self.beats) + int(words[1]) > 200:
                return "too many"
            self.beats += [self.doors()] * int(words[1])
            return self.answer_of_beat()
        if len(words) == 2 and words[0] == "way" and words[1] in WAYS:
            return "done"
        return self.told_alone(line)

    def told_alone(self, line):
        model, outs = self.gone()
        if line == "back":
            self.beats = []
            return "done"
        if line == "undo":
            return "done" if self.beats and self.beats.pop() is not None else "nothing"
        if line == "rests":
            return " ".join(f"{name}={word}" for name, word in model.rests()) or "-"
        if line == "cells":
            return " ".join(f"{name}={','.join(map(str, cells))}" for name, cells in model.cells()) or "-"
        if line == "beats":
            return str(len(self.beats))
        if line == "trace":
            trace = [(tuple(doors.items()), tuple(told.items())) for doors, told in zip(self.beats, outs)]
            return written(trace).replace("\n", " / ")
        if line == "rows":
            net = flat(self.yard)
            return f"{len(net[1])} {len(fewer(net)[1])}"
        return "bad line"


class Desks(unittest.TestCase):
    def says(self, text, *lines):
        """Lines with their answers, one after the other."""
        desk = Desk(text)
        for line, answer in lines:
            told = desk.told(line)
            self.assertEqual(told, answer, line)
            self.assertIs(type(told), str)
        wanted = [answer for _, answer in lines]
        given = [line for line, _ in lines]
        self.assertEqual(answered(text, given), wanted)
        self.assertEqual(given, [line for line, _ in lines])
        # By each way all is answered alike.
        for way in WAYS:
            if all(line.split(" ")[0] != "way" for line, _ in lines):
                self.assertEqual(answered(text, ["way " + way, *given]), ["done", *wanted], way)
        return desk

    def stays(self, desk, line, answer):
        """What is answered so changes nothing."""
        before = [desk.told(ask) for ask in ("rests", "cells", "beats", "trace")]
        self.assertEqual(desk.told(line), answer, line)
        self.assertEqual([desk.told(ask) for ask in ("rests", "cells", "beats", "trace")], before, line)


class TestLines(Desks):
    def test_beats(self):
        self.says(
            SUM, ("beat", "s=9 t=0"), ("beat a=5", "s=14 t=0"), ("beat", "s=3 t=0"), ("beat b=1 a=0", "s=3 t=1"), ("beat a=15", "s=2 t=1"),
            ("beat b=0", "s=1 t=0"), ("beats", "6"), ("trace", "a=0 b=0 > s=9 t=0 / a=5 > s=14 / > s=3 / a=0 b=1 > t=1 / a=15 > s=2 / b=0 > s=1 t=0"),
            ("rests", "r=1"), ("cells", "m=15,15"),
        )

    def test_the_yard(self):
        self.says(
            YARD, ("rests", "x=3 c.r=1 y=200 d.r=1"), ("cells", "m=0,0,0,0 k=0,0"), ("trace", ""), ("beats", "0"),
            ("beat go=1 a=1", "t=1 s=3"), ("rests", "x=200 c.r=2 y=3 d.r=1"), ("cells", "m=0,3,0,0 k=0,1"),
            ("beat go=0", "t=0 s=203"), ("again 2", "t=0 s=203"),
            ("trace", "a=1 go=1 > t=1 s=3 / go=0 > t=0 s=203 / > t=1 s=6 / > t=0 s=203"),
        )

    def test_no_doors_out(self):
        self.says(NO_DOORS, ("beat", "-"), ("again 3", "-"), ("rests", "r=4"), ("cells", "-"), ("trace", "> / > 3"),
                  ("beat a=1", "bad doors"), ("undo", "done"), ("trace", "> / > 2"), ("rests", "r=3"))

    def test_no_rests_no_cells(self):
        self.says("part p\nin a 64\nout s 64\nlet s = ~a", ("rests", "-"), ("cells", "-"), ("beat", f"s={2 ** 64 - 1}"),
                  (f"beat a={2 ** 64 - 1}", "s=0"), (f"beat a={2 ** 64}", "bad doors"), ("rests", "-"), ("cells", "-"),
                  ("beat a=99999999999999999999", "bad doors"), ("beat a=100000000000000000000", "bad doors"), ("beats", "2"))

    def test_names_of_used_parts(self):
        self.says("part q w\nin i w\nrest v w 3 = i\nmemory m w 3: 1:2, v, 1:1\npart p\nin a 8\nuse u q(8): a\nuse k q(4): cut(a, 0, 4)\nrest b 1 1 = b",
                  ("beat a=200", "-"), ("rests", "u.v=200 k.v=8 b=1"), ("cells", "u.m=0,3,0 k.m=0,3,0"))

    def test_again(self):
        self.says(SUM, ("beat a=1", "s=10 t=0"), ("again 1", "s=11 t=0"), ("again 3", "s=14 t=0"), ("beats", "5"), ("back", "done"),
                  ("again 2", "s=9 t=0"), ("trace", "a=0 b=0 > s=9 t=0 / >"), ("beats", "2"))

    def test_undo(self):
        self.says(
            SUM, ("undo", "nothing"), ("beat a=1", "s=10 t=0"), ("beat a=2 b=1", "s=12 t=1"), ("cells", "m=1,2"), ("undo", "done"),
            ("cells", "m=1,0"), ("rests", "r=10"), ("beats", "1"), ("trace", "a=1 b=0 > s=10 t=0"), ("beat", "s=11 t=0"), ("undo", "done"),
            ("undo", "done"), ("rests", "r=9"), ("cells", "m=0,0"), ("undo", "nothing"), ("beat", "s=9 t=0"), ("trace", "a=0 b=0 > s=9 t=0"),
        )

    def test_doors_behind_undo_and_back(self):
        self.says(
            SUM, ("beat a=7 b=1", "s=0 t=1"), ("beat b=0", "s=7 t=0"), ("undo", "done"), ("beat", "s=7 t=1"), ("back", "done"),
            ("beat b=1", "s=9 t=1"), ("beat a=1", "s=10 t=1"), ("back", "done"), ("undo", "nothing"), ("again 1", "s=9 t=0"), ("beats", "1"),
        )

    def test_back(self):
        self.says(SUM, ("back", "done"), ("beat a=3", "s=12 t=0"), ("back", "done"), ("rests", "r=9"), ("cells", "m=0,0"), ("beats", "0"),
                  ("trace", ""), ("beat", "s=9 t=0"))

    def test_bad_doors(self):
        desk = self.says(SUM, ("beat a=3 b=1", "s=12 t=1"))
        for words in ("a", "a=", "=1", "a=x", "a=1 a=1", "a=1 b=0 a=2", "c=1", "s=1", "r=1", "m=1", "p=1", "a=16", "b=2", "a=01", "a=00", "a=+1",
                      "a=-1", "a==1", "a=1=1", "a=1,b=1", "a:1", "A=1", "a=1 ", " a=1", "a=1  b=1", "", " ", "a=1 c", "b=1 a=16", "a =1", "a= 1",
                      "a=1\n", "1", "beat", "a=1_0", "a=123456789012345678901", "a=" + "0" * 30, "p.a=1", "a=1 b=1 b=1", ">", "a=None", "a=True"):
            self.stays(desk, "beat " + words, "bad doors")
        self.assertEqual(desk.told("beat"), "s=15 t=1")
        self.assertEqual(desk.told("beat a=0"), "s=15 t=1")

    def test_bad_lines(self):
        desk = self.says(SUM, ("beat a=3 b=1", "s=12 t=1"))
        lines = ["", " ", "  ", "beat\n", "Beat", "BEAT", "bea", "beatx", " beat", "beat\ta=1", "a=1", "again", "again ", "again  2", "again 2 ",
                 " again 2", "again 0", "again 201", "again 00", "again 01", "again 1 1", "again +1", "again -1", "again x", "again 1.0", "again 1,0",
                 "again 100000000000000000000", "again 99999999999999999999", "again\n1", "Again 1", "again=1", "way", "way ", "way  plain",
                 "way plain ", " way plain", "way Plain", "way plain swift", "way fewer", "way x", "way few\n", "ways few", "backs", "back ", " back",
                 "back 1", "back back", "undo ", "undo 1", "Undo", "undoo", "rest", "rests ", "rests r", "cell", "cells ", "cells m", "beats ",
                 "beats 1", "beats\n", "trace ", "trace 1", "traces", "rows ", "row", "rows 1", "#", "# beat", "nothing", "done", "help", "plain",
                 "beat=1", "beata=1", "back\nback", "undo\n"]
        for line in lines:
            self.stays(desk, line, "bad line")
        self.assertEqual(desk.told("beat"), "s=15 t=1")

    def test_no_text(self):
        desk = self.says(SUM, ("beat a=3 b=1", "s=12 t=1"))
        for thing in (None, True, 5, b"beat", ["beat"], ("beat",), {"beat": 1}, {"beat"}, object(), str):
            before = [desk.told(ask) for ask in ("rests", "cells", "beats", "trace")]
            for _ in range(2):
                with self.assertRaises(BadLine) as caught:
                    desk.told(thing)
                self.assertEqual((type(caught.exception), BadLine.__bases__), (BadLine, (YardError,)))
            self.assertEqual([desk.told(ask) for ask in ("rests", "cells", "beats", "trace")], before)
            for lines in ([thing], ["beat", thing], ["beat", thing, "beat"], ["x", thing]):
                with self.assertRaises(BadLine):
                    answered(SUM, lines)
        self.assertEqual(desk.told("beat"), "s=15 t=1")


class TestMost(Desks):
    def test_200_beats(self):
        for way in WAYS:
            desk = self.says(SUM, ("way " + way, "done"), ("beat b=1", "s=9 t=1"), ("again 199", "s=9 t=1"), ("beats", "200"))
            for line in ("beat", "beat a=1", "again 1", "again 2", "again 199", "again 200"):
                self.stays(desk, line, "too many")
            self.stays(desk, "beat a=16", "bad doors")
            self.stays(desk, "beat c=1", "bad doors")
            self.stays(desk, "again 0", "bad line")
            self.stays(desk, "again 201", "bad line")
            self.assertEqual(desk.told("trace"), "a=0 b=1 > s=9 t=1 / > 199")
            self.assertEqual([desk.told(line) for line in ("undo", "beats", "again 2", "beat a=1", "beat", "beats")],
                             ["done", "199", "too many", "s=10 t=1", "too many", "200"])
            self.assertEqual(desk.told("trace"), "a=0 b=1 > s=9 t=1 / > 198 / a=1 > s=10")
            self.assertEqual([desk.told(line) for line in ("back", "again 200", "again 1", "beats")], ["done", "s=9 t=0", "too many", "200"])

    def test_again_beyond_200(self):
        desk = self.says(SUM, ("beat a=1", "s=10 t=0"), ("again 100", "s=14 t=0"))
        self.stays(desk, "again 100", "too many")
        self.assertEqual(desk.told("again 99"), "s=1 t=0")
        self.assertEqual(desk.told("beats"), "200")


class TestWays(Desks):
    def test_all_else_as_it_was(self):
        for first in WAYS:
            for second in WAYS:
                desk = Desk(SUM)
                told = [desk.told(line) for line in ("way " + first, "beat a=2 b=1", "way " + second, "rests", "cells", "beats", "trace", "beat",
                                                     "undo", "way " + first, "beat", "back", "trace", "beat a=1", "way " + second, "undo",
                                                     "undo", "beat")]
                self.assertEqual(told, ["done", "s=11 t=1", "done", "r=11", "m=0,2", "1", "a=2 b=1 > s=11 t=1", "s=13 t=1", "done", "done",
                                        "s=13 t=1", "done", "", "s=10 t=0", "done", "done", "nothing", "s=9 t=0"])

    def test_ways_mixed_with_all_else(self):
        choice = random.Random(61)
        for yard in [read(YARD), read(SUM), read(NO_DOORS)] + sound_yards(50, 62):
            text = shown(yard)
            desk, model = Desk(text), DeskModel(text)
            for _ in range(40):
                line = self.some_line(choice, model)
                self.assertEqual(desk.told(line), model.told(line), line)

    def some_line(self, choice, model):
        kind = choice.randrange(10)
        if kind < 4:
            names = list(model.widths)
            names = choice.sample(names, choice.randint(0, len(names))) + choice.sample(["zz", "a", ""], choice.choice((0,) * 9 + (1,)))
            words = []
            for name in names:
                top = 2 ** model.widths.get(name, 1) - 1
                words.append(f"{name}={choice.choice((0, 1, top, choice.randint(0, top), choice.choice((top, top, top + 1))))}")
            return " ".join(["beat", *words])
        if kind == 4:
            return f"again {choice.choice((0, 1, 2, 2, 5, 5, 195, 201))}"
        if kind == 5:
            return "way " + choice.choice((*WAYS, "x"))
        if kind == 6:
            return choice.choice(("undo", "undo", "undo", "back", "beat ", "undo "))
        return choice.choice(("rests", "cells", "beats", "trace", "rows", "rows 1"))

    def test_rows(self):
        self.says(SUM, ("rows", "6 6"), ("beat", "s=9 t=0"), ("rows", "6 6"))
        self.says("part p\nin a 8\nout s 8\nlet s = a + 0:8 + 0:8", ("rows", "5 1"))
        self.says("part p\nin a 8", ("rows", "1 0"))
        self.says("part p\ntable t 8: 1", ("rows", "0 0"))

    def test_3000_rows_and_more(self):
        desk = Desk(text_of(3000))
        self.assertEqual(desk.told("rows"), "3000 3")
        self.assertEqual([desk.told(line) for way in WAYS for line in ("way " + way, "beat a=1", "rests")], ["done", "s=1", "-"] * 4)
        desk = Desk(text_of(3001))
        self.assertEqual(desk.told("beat a=1"), "s=1")
        for line in ("way flat", "way few", "rows"):
            for _ in range(2):
                self.stays(desk, line, "too many")
        for way in ("swift", "plain"):
            self.assertEqual([desk.told(line) for line in ("way " + way, "beat", "way flat", "beat a=0", "undo", "undo")],
                             ["done", "s=1", "too many", "s=0", "done", "done"])
        self.assertEqual(desk.told("trace"), "a=1 > s=1")


class TestRefused(Desks):
    def test_texts(self):
        for thing, at in ((None, None), (5, None), (b"part p", None), (["part p"], None), ("", 1), ("part p", 1), ("part p\nin a 65", 1),
                          ("x", 0), (SUM + "in in 5\n", 9)):
            for made in (Desk, lambda given: answered(given, ["beat"]), lambda given: answered(given, [None]),
                         lambda given: answered(given, None)):
                with self.assertRaises(BadText) as caught:
                    made(thing)
                self.assertEqual(caught.exception.at, at)

    def test_yards(self):
        for fault in FAULTS:
            text = shown(with_faults(fault))
            for made in (Desk, lambda given: answered(given, []), lambda given: answered(given, [None])):
                with self.assertRaises(YardError) as caught:
                    made(text)
                error = caught.exception
                self.assertEqual((type(error), list(vars(error).values())), refusal(read(text)))
        with self.assertRaises(Lacking):
            Desk("part p\nout s 1\nlet s = a")

    def test_lines_that_are_no_list(self):
        for thing in (None, 5, "beat", ("beat",), {"beat": 1}, object()):
            with self.assertRaises(BadLine):
                answered(SUM, thing)
        self.assertEqual(answered(SUM, []), [])


class TestAnswered(Desks):
    def test_beside_told(self):
        lines = ["rests", "beat a=1", "x", "again 3", "undo", "trace", "way few", "beat", "beats", "rows", "back", "undo"]
        desk = Desk(SUM)
        wanted = [desk.told(line) for line in lines]
        for _ in range(2):
            told = answered(SUM, lines)
            self.assertEqual(told, wanted)
            self.assertIs(type(told), list)
            told.clear()
        self.assertEqual(len(lines), 12)

    def test_two_desks_side_by_side(self):
        one, other = Desk(SUM), Desk(SUM)
        self.assertEqual([one.told("beat a=1"), other.told("beat"), one.told("beat"), other.told("undo"), one.told("beats")],
                         ["s=10 t=0", "s=9 t=0", "s=11 t=0", "done", "2"])
        self.assertEqual((other.told("beats"), other.told("rests"), one.told("rests")), ("0", "r=9", "r=11"))

    def test_places(self):
        self.assertEqual((Desk.__module__, answered.__module__), ("wireyard.desk", "wireyard.desk"))
        self.assertIn("told", vars(Desk))


if __name__ == "__main__":
    unittest.main()
