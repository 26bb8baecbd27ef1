"""One yard gone through each way that there is, its trace written, read and played."""

import copy
import importlib
import inspect
import random
import unittest

import wireyard
from going import YARD
from sound import Model, some_doors, sound_yards
from wireyard.alike import alike
from wireyard.desk import Desk, answered
from wireyard.errors import TooMany
from wireyard.fewer import fewer
from wireyard.flat import flat
from wireyard.plain import Plain
from wireyard.reading import read
from wireyard.running import Running
from wireyard.showing import shown
from wireyard.swift import Swift
from wireyard.traces import played, trace_in, trace_of, trace_text

# What the interface lists, file by file: functions with the names of what they take, classes with their methods.
INTERFACE = {
    "errors": {"YardError": None, "BadText": ["at"], "BadTrace": ["at"], "Lacking": ["part", "row", "name"], "Twice": ["part", "row", "name"],
               "BadWidth": ["part", "row", "name"], "Unwired": ["part", "row", "name"], "TooDeep": ["part", "row", "name"], "Ring": ["names"],
               "TooMany": None, "BadDoors": None, "BadNet": None, "BadLine": None},
    "bits": {"is_width": ["thing"], "is_word": ["thing", "width"], "top_of": ["width"], "turned": ["word", "width"],
             "two_words": ["sign", "one", "other", "width"], "cut_word": ["word", "low", "many"], "joined_words": ["high", "low", "many"],
             "bits_text": ["word", "width"], "word_by_bits": ["text"]},
    "signs": {"is_name": ["thing"], "words_of": ["row"]},
    "reading": {"read": ["text"], "term_in": ["text"]},
    "showing": {"shown": ["yard"], "term_text": ["term"]},
    "walks": {"kids_of": ["term"], "widths_in": ["part", "numbers"], "made_parts": ["yard"]},
    "looking": {"looked": ["yard"]},
    "rings": {"asks_of": ["yard"], "ring_in": ["asks"]},
    "pieces": {"Scope": ["path", "numbers", "widths", "stores"], "Scope.full": ["name"], "Scope.width_of": ["width"], "Piece": None,
               "piece_of": ["term", "scope"], "Piece.width": [], "Piece.worth": ["seen"], "Piece.asks": [], "Piece.parts": []},
    "scopes": {"wired_of": ["yard"], "in_order": ["names", "told"]},
    "plain": {"Plain": ["yard"], "Plain.beat": ["doors"], "Plain.rests": [], "Plain.cells": [], "Plain.back": []},
    "heaps": {"Heap": [], "Heap.put": ["thing"], "Heap.take": [], "Heap.size": []},
    "swift": {"Swift": ["yard"], "Swift.beat": ["doors"], "Swift.rests": [], "Swift.cells": [], "Swift.back": [], "Swift.stirred": []},
    "nets": {"is_net": ["thing"], "need_net": ["thing"], "asked_by": ["row"], "led_to": ["row", "numbers"], "cell_at": ["cells", "at"],
             "worth_of": ["row", "words", "rows", "tables"]},
    "flat": {"flat": ["yard"]},
    "running": {"Running": ["net"], "Running.beat": ["doors"], "Running.rests": [], "Running.cells": [], "Running.back": []},
    "fewer": {"fewer": ["net"]},
    "diagrams": {"Diagrams": ["most"], "Diagrams.how_many": [], "Diagrams.bit": ["place"], "Diagrams.choice": ["bit", "low", "high"],
                 "Diagrams.both": ["one", "other"], "Diagrams.either": ["one", "other"], "Diagrams.unlike": ["one", "other"],
                 "Diagrams.turned": ["knot"], "Diagrams.chosen": ["test", "one", "other"], "Diagrams.told": ["knot", "word"],
                 "Diagrams.beyond": ["knot", "size", "word"], "Diagrams.way": ["knot"]},
    "choices": {"Told": ["diagrams", "net", "first", "doors"]},
    "alike": {"alike": ["net", "other"]},
    "traces": {"trace_of": ["yard", "beats"], "trace_text": ["trace"], "trace_in": ["text"], "played": ["yard", "trace"]},
    "desk": {"Desk": ["text"], "Desk.told": ["line"], "answered": ["text", "lines"]},
}


class TestInterface(unittest.TestCase):
    def test_all_that_is_listed_is_defined_where_it_is_listed(self):
        for file, things in INTERFACE.items():
            module = importlib.import_module(f"{wireyard.__name__}.{file}")
            for path, names in things.items():
                thing = module
                for name in path.split("."):
                    # A method stands in the class itself, not in one above it.
                    thing = vars(thing)[name]
                self.assertEqual(thing.__module__, module.__name__, path)
                if names is not None:
                    given = list(inspect.signature(thing.__init__ if inspect.isclass(thing) else thing).parameters)
                    given = given[1:] if inspect.isclass(thing) or "." in path else given
                    self.assertEqual(given if given != ["args", "kwargs"] else [], names, path)

    def test_most_left_out(self):
        from wireyard.bits import MOST_WIDTH
        from wireyard.diagrams import Diagrams
        self.assertEqual((MOST_WIDTH, inspect.signature(Diagrams).parameters["most"].default), (64, 2000))


class TestWhole(unittest.TestCase):
    def ways(self, yard):
        net = flat(yard)
        return [Plain(yard), Swift(yard), Running(net), Running(fewer(net))]

    def test_beat_by_beat_alike(self):
        choice = random.Random(81)
        for yard in [read(YARD)] + sound_yards(80, 82):
            text = shown(yard)
            self.assertEqual(read(text), yard)
            goings, model, beats, wanted = self.ways(yard), Model(yard), [], []
            desks = [Desk(text) for _ in range(4)]
            for desk, way in zip(desks, ("plain", "swift", "flat", "few")):
                self.assertEqual(desk.told("way " + way), "done")
            for _ in range(8):
                doors = some_doors(choice, yard, beats[-1] if beats else {})
                beats.append(doors)
                outs = model.beat(doors)
                wanted.append((tuple(doors.items()), tuple(outs.items())))
                for going in goings:
                    self.assertEqual(list(going.beat(doors).items()), list(outs.items()))
                    self.assertEqual((going.rests(), going.cells()), (model.rests(), model.cells()))
                line = " ".join(["beat"] + [f"{name}={word}" for name, word in doors.items()])
                answer = " ".join(f"{name}={word}" for name, word in outs.items()) or "-"
                self.assertEqual([desk.told(line) for desk in desks], [answer] * 4)
            trace = trace_of(yard, beats)
            self.assertEqual(trace, tuple(wanted))
            told = trace_text(trace)
            self.assertEqual(trace_in(told), trace)
            self.assertIsNone(played(yard, trace))
            for desk in desks:
                self.assertEqual(desk.told("trace"), told.replace("\n", " / "))

    def test_refused_and_taken_once_it_is_made_good(self):
        choice = random.Random(83)
        for yard in sound_yards(30, 84):
            goings, model = self.ways(yard), Model(yard)
            doors = {}
            for _ in range(4):
                doors = some_doors(choice, yard, doors)
                bad = {**doors, "zz": 0}
                for going in goings:
                    with self.assertRaises(ValueError):
                        going.beat(bad)
                del bad["zz"]
                outs = model.beat(doors)
                self.assertEqual([going.beat(bad) for going in goings], [outs] * 4)
                self.assertEqual(bad, doors)

    def test_what_was_told_may_be_changed(self):
        yard = read(YARD)
        goings, model = self.ways(yard), Model(yard)
        for a in (1, 3, 3, 0):
            outs = model.beat({"a": a, "go": 1})
            for going in goings:
                told, rests, cells = going.beat({"a": a, "go": 1}), going.rests(), going.cells()
                self.assertEqual((told, rests, cells), (outs, model.rests(), model.cells()))
                told.clear()
                rests.pop()
                cells[0][1][1] = 77
                cells[1][1].clear()
                cells.reverse()
                self.assertEqual((going.rests(), going.cells()), (model.rests(), model.cells()))

    def test_lists_and_dicts_handed_in_stay(self):
        beats = [{"a": 1, "go": 1}, {"a": 2, "go": 0}]
        lines = ["beat a=1 go=1", "beat a=2 go=0", "trace"]
        before = copy.deepcopy((beats, lines))
        yard = read(YARD)
        trace = trace_of(yard, beats)
        answers = answered(YARD, lines)
        self.assertEqual((beats, lines), before)
        self.assertEqual(answers[2].split(" / "), trace_text(trace).split("\n"))
        beats[0]["a"] = 9
        beats.clear()
        lines.clear()
        self.assertIsNone(played(yard, trace))

    def test_nets_of_yards_are_alike_made_fewer(self):
        shown_alike = 0
        for yard in sound_yards(150, 85):
            net = flat(yard)
            try:
                self.assertEqual(alike(net, fewer(net))[0], "alike")
                shown_alike += 1
            except TooMany:
                pass
        self.assertGreater(shown_alike, 5)


if __name__ == "__main__":
    unittest.main()
