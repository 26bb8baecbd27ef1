"""What stands from beat to beat: the words of rests and the cells of memories."""


class State:
    """Rests are tuples of a name, a width, a first word and more, memories of a name, a width, a size and more."""

    def __init__(self, rests, memories):
        self.rest_names = [rest[0] for rest in rests]
        self.firsts = [rest[2] for rest in rests]
        self.memory_names = [memory[0] for memory in memories]
        self.sizes = [memory[2] for memory in memories]
        self.back()

    def back(self):
        self.words = list(self.firsts)
        self.stores = [[0] * size for size in self.sizes]

    def stand(self, rests, cells):
        """Stands as it stood when it told these rests and cells."""
        self.words = [word for _, word in rests]
        self.stores = [list(store) for _, store in cells]

    def rests(self):
        return list(zip(self.rest_names, self.words))

    def cells(self):
        return [(name, list(store)) for name, store in zip(self.memory_names, self.stores)]

    def seen(self):
        """A dict from the names to what they have; its lists are only read, none of them is changed later."""
        seen = dict(zip(self.rest_names, self.words))
        seen.update(dict(zip(self.memory_names, self.stores)))
        return seen

    def go_on(self, words, writings):
        """All at once: each rest gets its word, each memory what its place, value and on say."""
        self.words = list(words)
        self.stores = [_written(store, writing) for store, writing in zip(self.stores, writings)]


def _written(store, writing):
    place, value, on = writing
    if on != 1 or place >= len(store):
        return store
    return store[:place] + [value] + store[place + 1:]
