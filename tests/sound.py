"""Yards that are let by, made by a fixed row of choices, and a model that goes through yards by the document's words.

The model shares nothing with the package: it asks each word anew from the yard's terms.
"""

import random

SIGNS = ("&", "|", "^", "+", "-")
NUMBERS = (1, 2, 3, 8, 31, 64)
LETTERS = "abcdefghijklmnopqrstvwxyz"


class PartMaker:
    """Makes one part whose terms fit, whatever numbers from 1 to 60 its params are given."""

    def __init__(self, choice, name, params, parts):
        self.choice = choice
        self.name = name
        self.params = params
        self.parts = parts
        self.names = list(LETTERS)
        choice.shuffle(self.names)
        self.asked = {}
        self.stores = {}
        self.rows = []

    def some_width(self):
        if self.params and self.choice.randrange(2):
            return (self.choice.choice(self.params), self.choice.randrange(2))
        return ("", self.choice.choice(NUMBERS))

    def tell(self, width, term):
        self.asked.setdefault(width, []).append(term)

    def some_number(self, width):
        name, number = width
        top = 1 if name else 2 ** number - 1
        return self.choice.choice((0, 1, top, self.choice.randint(0, top)))

    def term(self, width, deep):
        ways = [self.leaf]
        if deep > 1:
            ways += [self.turned, self.two, self.two, self.pick, self.cut, self.fill]
            if width in self.stores:
                ways += [self.stored, self.stored]
            if width == ("", 1):
                ways += [self.telling, self.telling]
            if width[0] == "" and width[1] > 1:
                ways += [self.joined]
        return self.choice.choice(ways)(width, deep - 1)

    def leaf(self, width, deep):
        if width in self.asked and self.choice.randrange(5):
            return self.choice.choice(self.asked[width])
        plain = [side for side in self.asked if side[0] == ""]
        if plain and width[0] == "" and self.choice.randrange(5):
            side = self.choice.choice(plain)
            term = self.choice.choice(self.asked[side])
            return ("cut", term, 0, width) if side[1] > width[1] else ("fill", term, width)
        return ("number", self.some_number(width), width)

    def turned(self, width, deep):
        return ("not", self.term(width, deep))

    def two(self, width, deep):
        return ("two", self.choice.choice(SIGNS), self.term(width, deep), self.term(width, deep))

    def telling(self, width, deep):
        side = self.some_width()
        return ("two", self.choice.choice(("==", "<")), self.term(side, deep), self.term(side, deep))

    def pick(self, width, deep):
        return ("pick", self.term(("", 1), deep), self.term(width, deep), self.term(width, deep))

    def stored(self, width, deep):
        place = self.choice.choice((("", 2), ("", 3), self.some_width()))
        return ("at", self.choice.choice(self.stores[width]), self.term(place, deep))

    def cut(self, width, deep):
        name, number = width
        more = self.choice.randrange(2) if name else self.choice.choice((0, 1, 64 - number))
        low = self.choice.randint(0, more) if name or number + more <= 64 else 0
        more = more if name or number + more <= 64 else 0
        return ("cut", self.term((name, number + more), deep), low, width)

    def fill(self, width, deep):
        name, number = width
        if name:
            side = self.choice.choice(((name, 0), ("", 1), width))
        else:
            side = ("", self.choice.randint(1, number))
        return ("fill", self.term(side, deep), width)

    def joined(self, width, deep):
        high = self.choice.randint(1, width[1] - 1)
        return ("join", self.term(("", high), deep), self.term(("", width[1] - high), deep))

    def add_doors_and_rests(self, ins):
        for _ in range(ins):
            self.rows.append(("in", self.names.pop(), self.some_width()))
            self.tell(self.rows[-1][2], ("name", self.rows[-1][1]))
        self.rests = [(self.names.pop(), self.some_width()) for _ in range(self.choice.randrange(4))]
        for name, width in self.rests:
            self.tell(width, ("name", name))
        self.memories = []
        for _ in range(self.choice.randrange(3)):
            width = self.some_width()
            self.memories.append((self.names.pop(), width, self.choice.choice((1, 2, 4, 32))))
            self.stores.setdefault(width, []).append(self.memories[-1][0])
        for _ in range(self.choice.randrange(2)):
            width = self.some_width()
            numbers = tuple(self.some_number(width) for _ in range(self.choice.choice((1, 3, 8))))
            self.rows.append(("table", self.names.pop(), width, numbers))
            self.stores.setdefault(width, []).append(self.rows[-1][1])

    def add_wired(self, kind):
        """What is wired later asks what was wired ahead alone, so that there is no ring."""
        name, width = self.names.pop(), self.some_width()
        self.rows.append((kind, name, width))
        self.rows.append(("let", name, self.term(width, 4)))
        self.tell(width, ("name", name))

    def add_use(self):
        used, params, rows = self.choice.choice(self.parts)
        widths = []
        for _ in params:
            if self.params and self.choice.randrange(2):
                widths.append((self.choice.choice(self.params), self.choice.randrange(2)))
            else:
                widths.append(("", self.choice.choice((1, 5, 60))))
        by_param = dict(zip(params, widths))
        name = self.names.pop()
        terms = [self.term(self.outer(row[2], by_param), 3) for row in rows if row[0] == "in"]
        self.rows.append(("use", name, used, tuple(widths), tuple(terms)))
        for row in rows:
            if row[0] == "out":
                self.tell(self.outer(row[2], by_param), ("of", name, row[1]))

    def outer(self, width, by_param):
        if width[0] == "":
            return width
        name, number = by_param[width[0]]
        return (name, number + width[1])

    def add_later(self):
        for name, width in self.rests:
            self.rows.append(("rest", name, width, self.some_number(width), self.term(width, 4)))
        for name, width, size in self.memories:
            place = self.choice.choice((("", 2), ("", 3), self.some_width()))
            terms = [self.term(place, 3), self.term(width, 3), self.term(("", 1), 3)]
            self.rows.append(("memory", name, width, size, *terms))

    def made(self):
        self.add_doors_and_rests(self.choice.randrange(4))
        kinds = ["out"] * self.choice.randint(1, 3) + ["wire"] * self.choice.randrange(3)
        kinds += ["use"] * (self.choice.randint(1, 2) if self.parts else 0)
        self.choice.shuffle(kinds)
        for kind in kinds:
            if kind == "use":
                self.add_use()
            else:
                self.add_wired(kind)
        self.add_later()
        self.choice.shuffle(self.rows)
        return (self.name, self.params, tuple(self.rows))


def sound_yards(many, seed):
    choice = random.Random(seed)
    yards = []
    for _ in range(many):
        parts = []
        for at in range(choice.randrange(3)):
            params = ("w", "v", "k")[:choice.randrange(3)]
            parts.append(PartMaker(choice, f"part{at}", params, parts).made())
        parts.append(PartMaker(choice, "main", (), parts).made())
        yards.append(tuple(parts))
    return yards


def some_doors(choice, yard, ahead):
    """Words for the main part's doors in: each may be what it was in the beat ahead."""
    doors = {}
    for row in yard[-1][2]:
        if row[0] == "in":
            top = 2 ** row[2][1] - 1
            doors[row[1]] = choice.choice((0, 1, top, choice.randint(0, top)))
            if ahead and choice.randrange(3):
                doors[row[1]] = ahead[row[1]]
    return doors


class Model:
    """Goes through a yard by recursion over its terms, with no order of names and no pieces."""

    def __init__(self, yard):
        self.parts = {part[0]: part for part in yard}
        self.main = yard[-1]
        self.terms = {}
        self.widths = {}
        self.tables = {}
        self.resting = []
        self.storing = []
        self.add_part("", self.main, {})
        self.back()

    def add_part(self, path, part, numbers):
        for row in part[2]:
            name = path + row[1]
            if row[0] == "let":
                self.terms[name] = (row[2], path, numbers)
                continue
            if row[0] == "use":
                used = self.parts[row[2]]
                for door, term in zip([other for other in used[2] if other[0] == "in"], row[4]):
                    self.terms[name + "." + door[1]] = (term, path, numbers)
                inner = {param: self.number(width, numbers) for param, width in zip(used[1], row[3])}
                self.add_part(name + ".", used, inner)
                continue
            self.widths[name] = self.number(row[2], numbers)
            if row[0] == "table":
                self.tables[name] = row[3]
            if row[0] == "rest":
                self.resting.append((name, row[3], (row[4], path, numbers)))
            if row[0] == "memory":
                self.storing.append((name, row[3], [(term, path, numbers) for term in row[4:]]))

    def number(self, width, numbers):
        return numbers.get(width[0], 0) + width[1]

    def back(self):
        self.rest_words = {name: first for name, first, _ in self.resting}
        self.stores = {name: [0] * size for name, size, _ in self.storing}
        self.ahead = None
        self.many = 0

    def rests(self):
        return list(self.rest_words.items())

    def cells(self):
        return [(name, list(cells)) for name, cells in self.stores.items()]

    def stirred(self):
        return self.many

    def beat(self, doors):
        self.words = dict(doors)
        self.words.update(self.rest_words)
        words = {name: self.word_of(name) for name in self.terms}
        told = {row[1]: words[row[1]] for row in self.main[2] if row[0] == "out"}
        self.count_stirred()
        rests = {name: self.worth(*term)[0] for name, _, term in self.resting}
        for name, size, terms in self.storing:
            place, value, on = [self.worth(*term)[0] for term in terms]
            if on == 1 and place < size:
                rests[(name, "written")] = (place, value)
        for name in self.stores:
            if (name, "written") in rests:
                place, value = rests.pop((name, "written"))
                self.stores[name][place] = value
        self.rest_words = rests
        return told

    def count_stirred(self):
        """By what the names have in this beat and had in the one ahead."""
        now = dict(self.words)
        now.update({name: list(cells) for name, cells in self.stores.items()})
        if self.ahead is None:
            self.many = len(self.terms)
        else:
            other = {name for name in now if now[name] != self.ahead[name]}
            self.many = 0
            for term, path, _ in self.terms.values():
                self.many += bool(other & {path + name for name in named_in(term)})
        self.ahead = now

    def word_of(self, name):
        if name not in self.words:
            self.words[name] = self.worth(*self.terms[name])[0]
        return self.words[name]

    def worth(self, term, path, numbers):
        """The word and the width of a term."""
        kind = term[0]
        if kind == "number":
            return term[1], self.number(term[2], numbers)
        if kind in ("name", "of"):
            name = path + ".".join(term[1:])
            return self.word_of(name), self.widths[name]
        if kind == "at":
            name = path + term[1]
            place = self.worth(term[2], path, numbers)[0]
            cells = self.tables[name] if name in self.tables else self.stores[name]
            return (cells[place] if place < len(cells) else 0), self.widths[name]
        if kind == "two":
            one, width = self.worth(term[2], path, numbers)
            return two_worth(term[1], one, self.worth(term[3], path, numbers)[0], width)
        if kind == "pick":
            test = self.worth(term[1], path, numbers)[0]
            return self.worth(term[2] if test == 1 else term[3], path, numbers)
        word, width = self.worth(term[1], path, numbers)
        if kind == "not":
            return 2 ** width - 1 - word, width
        if kind == "cut":
            many = self.number(term[3], numbers)
            return word // 2 ** term[2] % 2 ** many, many
        if kind == "join":
            low, many = self.worth(term[2], path, numbers)
            return word * 2 ** many + low, width + many
        return word, self.number(term[2], numbers)


def two_worth(sign, one, other, width):
    if sign == "==":
        return int(one == other), 1
    if sign == "<":
        return int(one < other), 1
    if sign == "+":
        return (one + other) % 2 ** width, width
    if sign == "-":
        return (one - other) % 2 ** width, width
    bits = [(one // 2 ** at % 2, other // 2 ** at % 2) for at in range(width)]
    told = {"&": lambda a, b: a * b, "|": lambda a, b: max(a, b), "^": lambda a, b: (a + b) % 2}[sign]
    return sum(told(*pair) * 2 ** at for at, pair in enumerate(bits)), width


def named_in(term):
    """All names in a term, those of tables and memories too."""
    if term[0] in ("name", "of"):
        return [".".join(term[1:])]
    names = [term[1]] if term[0] == "at" else []
    for thing in term[1:]:
        if isinstance(thing, tuple) and len(thing) > 1 and thing[0] in KINDS and not is_width_tuple(thing):
            names += named_in(thing)
    return names


KINDS = ("number", "name", "of", "at", "not", "two", "pick", "cut", "join", "fill")


def is_width_tuple(thing):
    return len(thing) == 2 and isinstance(thing[1], int)
