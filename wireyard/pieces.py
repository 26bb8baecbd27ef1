"""Pieces: the terms of made parts, each with a width and, by the words of the names that it asks, a word."""

from wireyard.bits import cut_word, joined_words, turned, two_width, two_words
from wireyard.nets import cell_at
from wireyard.walks import kids_of, width_number


class Scope:
    """A made part: what its terms may ask."""

    def __init__(self, path, numbers, widths, stores):
        self.path = path
        self.numbers = dict(numbers)
        self.widths = dict(widths)
        self.stores = dict(stores)

    def full(self, name):
        return self.path + name

    def width_of(self, width):
        """The number that a width comes to."""
        return width_number(width, self.numbers)


class Piece:
    """A term of a made part; only the classes under this one are made."""

    def width(self):
        return self.wide

    def worth(self, seen):
        """The word, seen leading from full names to words and, of memories, to lists of words."""
        raise NotImplementedError("nobody makes a Piece by itself")

    def asks(self):
        """The full names that are asked, each once, from the left."""
        names = []
        for piece in self.beneath:
            for name in piece.asks():
                if name not in names:
                    names.append(name)
        return names

    def reads(self):
        """The full names of the memories that are read, from the left."""
        names = []
        for piece in self.beneath:
            names.extend(piece.reads())
        return names

    def parts(self):
        return list(self.beneath)

    def net_row(self, sides, places):
        """The row of a net that tells this, by the rows of its parts and the places of tables and memories by name."""
        raise NotImplementedError("a name has no row of its own")


class NumberPiece(Piece):
    def __init__(self, width, number):
        self.wide = width
        self.beneath = []
        self.number = number

    def worth(self, seen):
        return self.number

    def net_row(self, sides, places):
        return ("number", self.wide, self.number)


class NamePiece(Piece):
    """A name of the made part itself, or a door out of a part that it uses."""

    def __init__(self, width, name):
        self.wide = width
        self.beneath = []
        self.name = name

    def worth(self, seen):
        return seen[self.name]

    def asks(self):
        return [self.name]


class TablePiece(Piece):
    def __init__(self, width, name, numbers, place):
        self.wide = width
        self.beneath = [place]
        self.name = name
        self.table = tuple(numbers)

    def worth(self, seen):
        return cell_at(self.table, self.beneath[0].worth(seen))

    def net_row(self, sides, places):
        return ("table", self.wide, places[self.name], sides[0])


class MemoryPiece(Piece):
    def __init__(self, width, name, place):
        self.wide = width
        self.beneath = [place]
        self.name = name

    def worth(self, seen):
        return cell_at(seen[self.name], self.beneath[0].worth(seen))

    def reads(self):
        return [self.name] + self.beneath[0].reads()

    def net_row(self, sides, places):
        return ("memory", self.wide, places[self.name], sides[0])


class NotPiece(Piece):
    def __init__(self, one):
        self.wide = one.width()
        self.beneath = [one]

    def worth(self, seen):
        return turned(self.beneath[0].worth(seen), self.wide)

    def net_row(self, sides, places):
        return ("not", self.wide, sides[0])


class TwoPiece(Piece):
    def __init__(self, sign, one, other):
        self.wide = two_width(sign, one.width())
        self.beneath = [one, other]
        self.sign = sign

    def worth(self, seen):
        one, other = self.beneath
        return two_words(self.sign, one.worth(seen), other.worth(seen), self.wide)

    def net_row(self, sides, places):
        return ("two", self.wide, self.sign, sides[0], sides[1])


class PickPiece(Piece):
    def __init__(self, test, one, other):
        self.wide = one.width()
        self.beneath = [test, one, other]

    def worth(self, seen):
        test, one, other = self.beneath
        return one.worth(seen) if test.worth(seen) == 1 else other.worth(seen)

    def net_row(self, sides, places):
        return ("pick", self.wide, sides[0], sides[1], sides[2])


class CutPiece(Piece):
    def __init__(self, width, one, low):
        self.wide = width
        self.beneath = [one]
        self.low = low

    def worth(self, seen):
        return cut_word(self.beneath[0].worth(seen), self.low, self.wide)

    def net_row(self, sides, places):
        return ("cut", self.wide, sides[0], self.low)


class JoinPiece(Piece):
    def __init__(self, high, low):
        self.wide = high.width() + low.width()
        self.beneath = [high, low]

    def worth(self, seen):
        high, low = self.beneath
        return joined_words(high.worth(seen), low.worth(seen), low.width())

    def net_row(self, sides, places):
        return ("join", self.wide, sides[0], sides[1])


class FillPiece(Piece):
    def __init__(self, width, one):
        self.wide = width
        self.beneath = [one]

    def worth(self, seen):
        return self.beneath[0].worth(seen)

    def net_row(self, sides, places):
        return ("fill", self.wide, sides[0])


def piece_of(term, scope):
    """The piece of a term of a made part, whose names are there and whose widths fit."""
    kind = term[0]
    if kind == "number":
        return NumberPiece(scope.width_of(term[2]), term[1])
    if kind == "name":
        return _named(term[1], scope)
    if kind == "of":
        return _named(term[1] + "." + term[2], scope)
    beneath = [piece_of(kid, scope) for kid in kids_of(term)]
    if kind == "at":
        return _stored(term[1], beneath[0], scope)
    if kind == "not":
        return NotPiece(beneath[0])
    if kind == "two":
        return TwoPiece(term[1], beneath[0], beneath[1])
    if kind == "pick":
        return PickPiece(beneath[0], beneath[1], beneath[2])
    if kind == "cut":
        return CutPiece(scope.width_of(term[3]), beneath[0], term[2])
    if kind == "join":
        return JoinPiece(beneath[0], beneath[1])
    return FillPiece(scope.width_of(term[2]), beneath[0])


def _named(name, scope):
    return NamePiece(scope.widths[name], scope.full(name))


def _stored(name, place, scope):
    width, numbers = scope.stores[name]
    if numbers is None:
        return MemoryPiece(width, scope.full(name), place)
    return TablePiece(width, scope.full(name), numbers, place)
