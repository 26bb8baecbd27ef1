import copy
import random
import unittest

from going import GoingTests, text
from netmaking import NetModel, some_nets, some_words
from sound import some_doors, sound_yards
from test_nets import EMPTY, NET, ODD, TOP, at_path, paths, put
from wireyard.errors import BadDoors, BadNet, YardError
from wireyard.flat import flat
from wireyard.plain import Plain
from wireyard.running import Running


def running_of(yard):
    return Running(flat(yard))


class TestNetsOfYards(GoingTests, unittest.TestCase):
    """All that is told of going through yards, by the nets of these."""

    GOES = staticmethod(running_of)

    def test_methods_stand_in_the_class(self):
        for name in ("beat", "rests", "cells", "back"):
            self.assertIn(name, vars(Running))
        self.assertEqual(Running.__module__, "wireyard.running")

    def test_beside_plain(self):
        choice = random.Random(10)
        for yard in sound_yards(100, 71):
            running, plain = running_of(yard), Plain(yard)
            doors = {}
            for at in range(10):
                if at == 6:
                    running.back()
                    plain.back()
                doors = some_doors(choice, yard, doors)
                self.assertEqual(list(running.beat(doors).items()), list(plain.beat(doors).items()))
                self.assertEqual((running.rests(), running.cells()), (plain.rests(), plain.cells()))


class TestNets(unittest.TestCase):
    def goes_like_model(self, net, choice, beats):
        running, model = Running(net), NetModel(net)
        for _ in range(2):
            self.assertEqual((running.rests(), running.cells()), (model.rests(), model.cells()))
            for _ in range(beats):
                doors = some_words(choice, net)
                told = running.beat(doors)
                self.assertEqual(list(told.items()), list(model.beat(doors).items()))
                for word in told.values():
                    self.assertIs(type(word), int)
                self.assertEqual((running.rests(), running.cells()), (model.rests(), model.cells()))
            self.assertIsNone(running.back())
            model.back()

    def test_each_kind_of_row(self):
        choice = random.Random(12)
        before = copy.deepcopy(NET)
        self.goes_like_model(NET, choice, 200)
        self.assertEqual(NET, before)
        running = Running(NET)
        # Row 9 is a joined with its upper half: 255 turned is 0, so that rows 5 and 7 are a.
        self.assertEqual(running.beat({"a": 0xa5, "b": 1, "x": 3}), {"s": 0xa5a, "t": 0xa5})
        self.assertEqual(running.rests(), [("r", 0), ("q", 0)])
        self.assertEqual(running.cells(), [("m", [0] * 4), ("n", [0] * 32)])

    def test_many_nets(self):
        choice = random.Random(13)
        for net in some_nets(300, 14):
            self.goes_like_model(net, choice, 4)

    def test_an_empty_net(self):
        running = Running(EMPTY)
        for _ in range(2):
            self.assertEqual((running.beat({}), running.rests(), running.cells()), ({}, [], []))

    def test_names_are_any_texts(self):
        net = ((("", 8), ("a b", 8)), (("in", 8, 1), ("in", 8, 0), ("rest", 8, 0)), (("a b", 1), ("", 2)), (("", 8, 9, 0),), (), ())
        running = Running(net)
        self.assertEqual(list(running.beat({"": 5, "a b": 6}).items()), [("a b", 5), ("", 9)])
        self.assertEqual(running.rests(), [("", 6)])

    def test_one_name_of_a_door_a_rest_and_a_memory(self):
        rows = (("in", 8, 0), ("rest", 8, 0), ("number", 1, 0), ("number", 1, 1), ("memory", 8, 0, 2), ("two", 8, "+", 0, 1))
        net = ((("n", 8),), rows, (("n", 4),), (("n", 8, 1, 5),), (), (("n", 8, 1, 2, 1, 3),))
        running = Running(net)
        for told, rest, cell in ((0, 11, 1), (1, 21, 11), (11, 31, 21)):
            self.assertEqual(running.beat({"n": 10}), {"n": told})
            self.assertEqual((running.rests(), running.cells()), ([("n", rest)], [("n", [cell])]))

    def test_memories_written_at_the_last_cell_and_beyond(self):
        for size in (1, 3, 32):
            rows = (("in", 64, 0), ("in", 8, 1), ("in", 1, 2), ("memory", 8, 0, 0))
            net = ((("at", 64), ("v", 8), ("on", 1)), rows, (("o", 3),), (), (), (("m", 8, size, 0, 1, 2),))
            running = Running(net)
            cells = [0] * size
            for turn, at in enumerate((size - 1, size, TOP, 0, 31, 32, size - 1)):
                for on in (0, 1):
                    word = 100 + 2 * turn + on
                    self.assertEqual(running.beat({"at": at, "v": word, "on": on}), {"o": cells[at] if at < size else 0})
                    if on and at < size:
                        cells[at] = word
                    self.assertEqual(running.cells(), [("m", cells)])

    def test_no_net(self):
        for thing in ODD:
            for _ in range(2):
                with self.assertRaises(BadNet) as caught:
                    Running(thing)
                self.assertEqual((type(caught.exception), BadNet.__bases__), (BadNet, (YardError,)))
        for thing in (list(NET), NET[:5], NET + ((),), "abcdef"):
            with self.assertRaises(BadNet):
                Running(thing)
        for path in paths(NET):
            now = at_path(NET, path)
            if path:
                with self.assertRaises(BadNet):
                    Running(put(NET, path, None))
            if isinstance(now, tuple):
                with self.assertRaises(BadNet):
                    Running(put(NET, path, list(now)))
        Running(NET)

    def test_two_of_one_net_side_by_side(self):
        choice = random.Random(15)
        for net in some_nets(40, 16):
            one, other, first, second = Running(net), Running(net), NetModel(net), NetModel(net)
            for _ in range(6):
                running, model = choice.choice(((one, first), (other, second)))
                doors = some_words(choice, net)
                self.assertEqual(running.beat(doors), model.beat(doors))
                for running, model in ((one, first), (other, second)):
                    self.assertEqual((running.rests(), running.cells()), (model.rests(), model.cells()))

    def test_bad_doors(self):
        good = {"a": 1, "b": 1, "x": 1}
        bad = [{}, {"a": 1, "b": 1}, {**good, "c": 1}, {**good, "a": 256}, {**good, "b": 2}, {**good, "x": TOP + 1}, {**good, "a": -1},
               {**good, "b": True}, {**good, "a": "1"}, {**good, "a": None}, {**good, "a": [1]}, {"a": 1, "b": 1, "X": 1},
               {"a": 1, "b": 1, None: 1}, [1, 1, 1], list(good), tuple(good.items()), None, 5, True, "abx", object(), good.items()]
        bad += [thing for thing in ODD if thing != {}]
        running, other = Running(NET), Running(NET)
        for doors in bad:
            with self.assertRaises(BadDoors) as caught:
                running.beat(doors)
            self.assertEqual(type(caught.exception).__bases__, (YardError,))
            self.assertEqual((running.rests(), running.cells()), (other.rests(), other.cells()))
            self.assertEqual(running.beat(good), other.beat(good))

    def test_doors_made_good_are_taken(self):
        running = Running(NET)
        doors = {"a": 256, "b": 1, "x": 1}
        with self.assertRaises(BadDoors):
            running.beat(doors)
        self.assertEqual(doors, {"a": 256, "b": 1, "x": 1})
        doors["a"] = 255
        self.assertEqual(running.beat(doors), Running(NET).beat({"a": 255, "b": 1, "x": 1}))

    def test_a_door_that_only_says_that_it_is_one(self):
        class Sly:
            def __hash__(self):
                return hash("a")

            def __eq__(self, other):
                return True

        for thing in (Running(flat(text("part p", "in a 8"))), Plain(text("part p", "in a 8"))):
            with self.assertRaises(BadDoors):
                thing.beat({Sly(): 1})
            self.assertEqual(thing.beat({"a": 1}), {})


if __name__ == "__main__":
    unittest.main()
