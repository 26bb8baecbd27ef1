"""Terms and yards made by a fixed row of choices, for tests that go over many of them."""

import random

NAMES = ("a", "b", "c1", "adder", "u", "x2345678", "m")
PARAMS = ("w", "v", "k")
SIGNS = ("|", "^", "&", "==", "<", "+", "-")


def some_width(choice):
    kind = choice.randrange(4)
    if kind == 0:
        return ("", choice.choice((1, 2, 8, 63, 64)))
    if kind == 1:
        return (choice.choice(PARAMS), 0)
    return (choice.choice(PARAMS), choice.choice((1, 5, 64, -1, -7, -64)))


def some_number(choice):
    return choice.choice((0, 1, 7, 10, 255, 2 ** 64 - 1, 10 ** 20 - 1))


def some_leaf(choice):
    kind = choice.randrange(4)
    if kind == 0:
        return ("number", some_number(choice), some_width(choice))
    if kind == 1:
        return ("of", choice.choice(NAMES), choice.choice(NAMES))
    return ("name", choice.choice(NAMES))


def some_term(choice, deep, trees):
    """A term at most so deep and of at most so many trees, and at least one."""
    if deep == 1 or trees < 4 or choice.randrange(8) == 0:
        return some_leaf(choice)
    kind = choice.choice(("at", "not", "two", "two", "two", "pick", "pick", "cut", "join", "fill"))
    many = {"two": 2, "join": 2, "pick": 3}.get(kind, 1)
    kids = [some_term(choice, deep - 1, (trees - 1) // many) for _ in range(many)]
    if kind == "at":
        return ("at", choice.choice(NAMES), kids[0])
    if kind == "two":
        return ("two", choice.choice(SIGNS), *kids)
    if kind == "cut":
        return ("cut", kids[0], choice.choice((0, 1, 63)), some_width(choice))
    if kind == "fill":
        return ("fill", kids[0], some_width(choice))
    return (kind, *kids)


def some_terms(many, seed):
    choice = random.Random(seed)
    return [some_term(choice, choice.randint(1, 10), choice.randint(1, 40)) for _ in range(many)]


def some_row(choice):
    kind = choice.choice(("in", "out", "wire", "rest", "let", "use", "table", "memory"))
    name = choice.choice(NAMES)
    if kind in ("in", "out", "wire"):
        return (kind, name, some_width(choice))
    if kind == "rest":
        return (kind, name, some_width(choice), some_number(choice), some_term(choice, 4, 8))
    if kind == "let":
        return (kind, name, some_term(choice, 6, 12))
    if kind == "use":
        widths = tuple(some_width(choice) for _ in range(choice.randint(0, 3)))
        terms = tuple(some_term(choice, 3, 4) for _ in range(choice.choice((0, 1, 2, 12))))
        return (kind, name, choice.choice(NAMES), widths, terms)
    if kind == "table":
        return (kind, name, some_width(choice), tuple(some_number(choice) for _ in range(choice.choice((1, 2, 32)))))
    terms = [some_term(choice, 3, 4) for _ in range(3)]
    return (kind, name, some_width(choice), choice.choice((1, 7, 32)), *terms)


def some_yards(many, seed):
    choice = random.Random(seed)
    yards = []
    for _ in range(many):
        parts = []
        for _ in range(choice.randint(1, 4)):
            rows = tuple(some_row(choice) for _ in range(choice.randint(1, 6)))
            parts.append((choice.choice(NAMES), PARAMS[:choice.randint(0, 3)], rows))
        yards.append(tuple(parts))
    return yards


def kids(term):
    """The terms within, by what they are and not by their kind."""
    return [thing for thing in term[1:] if isinstance(thing, tuple) and len(thing) > 1 and thing[0] in KINDS]


KINDS = ("number", "name", "of", "at", "not", "two", "pick", "cut", "join", "fill")


def depth(term):
    return 1 + max([depth(kid) for kid in kids(term)], default=0)


def trees(term):
    return 1 + sum(trees(kid) for kid in kids(term))
