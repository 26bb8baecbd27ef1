import itertools
import random
import unittest

from wireyard.heaps import Heap


class TestHeap(unittest.TestCase):
    def takes(self, heap, things):
        """Takes all that is there, the size told at each turn."""
        for left, thing in zip(reversed(range(len(things))), things):
            self.assertEqual(heap.take(), thing)
            self.assertEqual(heap.size(), left)

    def test_empty_at_first(self):
        self.assertEqual(Heap().size(), 0)

    def test_all_orders(self):
        for many in range(7):
            for row in itertools.permutations([(k,) for k in range(many)]):
                heap = Heap()
                for at, thing in enumerate(row):
                    self.assertIsNone(heap.put(thing))
                    self.assertEqual(heap.size(), at + 1)
                self.takes(heap, [(k,) for k in range(many)])

    def test_alike_ones(self):
        for row in set(itertools.permutations([(1,), (1,), (2,), (0,), (2,), (1,)])):
            heap = Heap()
            for thing in row:
                heap.put(thing)
            self.takes(heap, [(0,), (1,), (1,), (1,), (2,), (2,)])

    def test_tuples_of_unlike_lengths(self):
        things = [(), (-1,), (0,), (0, -5), (0, 0), (0, 0, 0), (0, 1), (1,), (1, -1, 9), (1, 0)]
        choice = random.Random(1)
        for _ in range(200):
            heap = Heap()
            for thing in choice.sample(things, len(things)):
                heap.put(thing)
            self.takes(heap, things)

    def test_below_nought_and_very_great(self):
        things = [(-10 ** 80,), (-2 ** 64, 5), (-2 ** 64, 6), (-1,), (0,), (2 ** 64 - 1,), (2 ** 64,), (10 ** 80, -1), (10 ** 80, 0)]
        choice = random.Random(2)
        for _ in range(200):
            heap = Heap()
            for thing in choice.sample(things, len(things)):
                heap.put(thing)
            self.takes(heap, things)

    def test_put_and_take_one_among_the_other(self):
        choice = random.Random(3)
        for _ in range(300):
            heap, kept = Heap(), []
            for _ in range(60):
                if kept and choice.randrange(5) < 2:
                    self.assertEqual(heap.take(), kept.pop(0))
                else:
                    thing = tuple(choice.randint(-3, 3) for _ in range(choice.randint(1, 3)))
                    self.assertIsNone(heap.put(thing))
                    kept = sorted(kept + [thing])
                self.assertEqual(heap.size(), len(kept))
            self.takes(heap, kept)
            heap.put((5,))
            self.takes(heap, [(5,)])

    def test_two_side_by_side(self):
        one, other = Heap(), Heap()
        one.put((2,))
        other.put((1,))
        one.put((0,))
        self.assertEqual((one.size(), other.size()), (2, 1))
        self.takes(other, [(1,)])
        self.takes(one, [(0,), (2,)])

    def test_many_things(self):
        choice = random.Random(4)
        things = [(choice.randrange(10 ** 6), k) for k in range(20000)]
        heap = Heap()
        for thing in things:
            heap.put(thing)
        self.assertEqual([heap.take() for _ in things], sorted(things))

    def test_place(self):
        self.assertEqual(Heap.__module__, "wireyard.heaps")
        for name in ("put", "take", "size"):
            self.assertIn(name, vars(Heap))


if __name__ == "__main__":
    unittest.main()
