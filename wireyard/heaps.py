"""Heaps: things of which the least one is taken first."""

from heapq import heappop, heappush


class Heap:
    """Tuples of whole numbers."""

    def __init__(self):
        self.things = []

    def put(self, thing):
        heappush(self.things, thing)

    def take(self):
        """The least thing, which goes."""
        return heappop(self.things)

    def size(self):
        return len(self.things)
