import copy
import random
import unittest

from sound import Model, sound_yards
from wireyard.pieces import Piece, Scope, piece_of
from wireyard.reading import term_in
from wireyard.scopes import wired_of

WIDTHS = {"a": 8, "b": 8, "c": 1, "d": 1, "x": 64, "y": 64, "z": 63, "v": 9, "u.s": 8, "u.t": 1}
STORES = {"t": (8, (5, 6, 255)), "k": (64, (2 ** 64 - 1,)), "m": (8, None), "n": (1, None)}
TOP = 2 ** 64 - 1


def scope(path="", numbers=()):
    return Scope(path, dict(numbers), WIDTHS, STORES)


def piece(text, path="", numbers=()):
    return piece_of(term_in(text), scope(path, numbers))


class TestScope(unittest.TestCase):
    def test_full_names(self):
        self.assertEqual(scope().full("a"), "a")
        self.assertEqual(scope("u.").full("a"), "u.a")
        self.assertEqual(scope("u.v.").full("w.s"), "u.v.w.s")

    def test_widths(self):
        made = scope("u.", {"w": 8, "v": 64})
        self.assertEqual(made.width_of(("", 1)), 1)
        self.assertEqual(made.width_of(("", 64)), 64)
        self.assertEqual(made.width_of(("w", 0)), 8)
        self.assertEqual(made.width_of(("w", 56)), 64)
        self.assertEqual(made.width_of(("w", -7)), 1)
        self.assertEqual(made.width_of(("v", -63)), 1)

    def test_it_keeps_copies(self):
        numbers, widths, stores = {"w": 8}, {"a": 8, "u.s": 3}, {"t": (8, (1, 2)), "m": (4, None)}
        made = Scope("u.", numbers, widths, stores)
        for given in (numbers, widths, stores):
            given.clear()
        numbers["w"] = 3
        widths["a"] = 3
        stores["t"] = (3, (0, 0))
        self.assertEqual(made.width_of(("w", 0)), 8)
        self.assertEqual(piece_of(("name", "a"), made).width(), 8)
        self.assertEqual(piece_of(("of", "u", "s"), made).width(), 3)
        told = piece_of(("at", "t", ("number", 1, ("", 1))), made)
        self.assertEqual((told.width(), told.worth({})), (8, 2))
        self.assertEqual(piece_of(("at", "m", ("name", "a")), made).width(), 4)

    def test_pieces_stay_as_they_were_made(self):
        numbers = {"w": 8}
        made = Scope("", numbers, {"a": 8}, {"t": (8, (1, 2))})
        told = piece_of(term_in("cut(a, 0, w) + t[1:1]"), made)
        made.numbers["w"] = 1
        made.widths["a"] = 1
        made.stores.clear()
        self.assertEqual((told.width(), told.worth({"a": 255})), (8, 1))


class Pieces(unittest.TestCase):
    def tells(self, text, word, width, seen=(), path="", numbers=()):
        made = piece(text, path, numbers)
        seen = dict(seen)
        before = copy.deepcopy(seen)
        for _ in range(2):
            self.assertEqual((made.worth(seen), made.width()), (word, width), text)
        self.assertIs(type(made.worth(seen)), int)
        self.assertIs(type(made.width()), int)
        self.assertIsInstance(made, Piece)
        self.assertEqual(seen, before)


class TestWorth(Pieces):
    def test_numbers(self):
        for width in (1, 2, 8, 63, 64):
            for number in (0, 1, 2 ** width - 1):
                self.tells(f"{number}:{width}", number, width)
        self.tells("5:w", 5, 3, numbers={"w": 3})
        self.tells("5:(w + 61)", 5, 64, numbers={"w": 3})
        self.tells("1:(w - 2)", 1, 1, numbers={"w": 3})

    def test_names(self):
        self.tells("a", 255, 8, {"a": 255})
        self.tells("a", 0, 8, {"a": 0, "u.a": 7})
        self.tells("x", TOP, 64, {"x": TOP})
        self.tells("c", 1, 1, {"c": 1})
        self.tells("a", 7, 8, {"a": 0, "u.a": 7}, "u.")
        self.tells("a", 9, 8, {"a": 0, "u.a": 7, "u.v.a": 9}, "u.v.")

    def test_doors(self):
        self.tells("u.s", 200, 8, {"u.s": 200})
        self.tells("u.t", 1, 1, {"u.t": 1})
        self.tells("u.s", 9, 8, {"u.s": 200, "v.u.s": 9}, "v.")

    def test_nots(self):
        for name, width in (("a", 8), ("c", 1), ("x", 64), ("z", 63)):
            top = 2 ** width - 1
            for word in (0, 1, top, top // 3):
                self.tells("~" + name, top - word, width, {name: word})
                self.tells("~~" + name, word, width, {name: word})

    def test_and_or_and_either(self):
        for one, other in ((0b1100, 0b1010), (255, 0), (0, 0), (255, 255), (1, 254)):
            seen = {"a": one, "b": other}
            self.tells("a & b", one & other, 8, seen)
            self.tells("a | b", one | other, 8, seen)
            self.tells("a ^ b", one ^ other, 8, seen)
        seen = {"x": TOP, "y": 2 ** 63}
        self.tells("x & y", 2 ** 63, 64, seen)
        self.tells("x | y", TOP, 64, seen)
        self.tells("x ^ y", 2 ** 63 - 1, 64, seen)
        for one in (0, 1):
            for other in (0, 1):
                seen = {"c": one, "d": other}
                self.tells("c & d", int(one and other), 1, seen)
                self.tells("c | d", int(one or other), 1, seen)
                self.tells("c ^ d", int(one != other), 1, seen)

    def test_sums_and_differences(self):
        for one, other, more, less in ((3, 4, 7, 255), (255, 1, 0, 254), (255, 255, 254, 0), (0, 1, 1, 255), (128, 128, 0, 0)):
            self.tells("a + b", more, 8, {"a": one, "b": other})
            self.tells("a - b", less, 8, {"a": one, "b": other})
        self.tells("x + y", 0, 64, {"x": TOP, "y": 1})
        self.tells("x + y", TOP - 1, 64, {"x": TOP, "y": TOP})
        self.tells("x - y", TOP, 64, {"x": 0, "y": 1})
        self.tells("x - y", 1, 64, {"x": 0, "y": TOP})
        for one in (0, 1):
            for other in (0, 1):
                self.tells("c + d", (one + other) % 2, 1, {"c": one, "d": other})
                self.tells("c - d", (one + other) % 2, 1, {"c": one, "d": other})

    def test_like_and_less(self):
        for one, other in ((0, 0), (0, 1), (1, 0), (255, 255), (254, 255), (255, 254), (0, 255)):
            self.tells("a == b", int(one == other), 1, {"a": one, "b": other})
            self.tells("a < b", int(one < other), 1, {"a": one, "b": other})
        for one, other in ((TOP, TOP), (TOP - 1, TOP), (TOP, 0), (0, TOP)):
            self.tells("x == y", int(one == other), 1, {"x": one, "y": other})
            self.tells("x < y", int(one < other), 1, {"x": one, "y": other})
        self.tells("(a < b) + (a == b)", 1, 1, {"a": 3, "b": 4})

    def test_picks(self):
        self.tells("if c then a else b", 5, 8, {"c": 1, "a": 5, "b": 6})
        self.tells("if c then a else b", 6, 8, {"c": 0, "a": 5, "b": 6})
        self.tells("if c then x else y", TOP, 64, {"c": 1, "x": TOP, "y": 0})
        self.tells("if a == b then c else d", 1, 1, {"a": 2, "b": 2, "c": 1, "d": 0})
        self.tells("if c then 1:8 else if d then 2:8 else 3:8", 3, 8, {"c": 0, "d": 0})

    def test_cuts(self):
        self.tells("cut(a, 0, 8)", 0xA5, 8, {"a": 0xA5})
        self.tells("cut(a, 0, 4)", 5, 4, {"a": 0xA5})
        self.tells("cut(a, 4, 4)", 10, 4, {"a": 0xA5})
        self.tells("cut(a, 7, 1)", 1, 1, {"a": 0xA5})
        self.tells("cut(a, 1, 6)", 0b010010, 6, {"a": 0xA5})
        self.tells("cut(x, 63, 1)", 1, 1, {"x": 2 ** 63})
        self.tells("cut(x, 1, 63)", 2 ** 63 - 1, 63, {"x": TOP})
        self.tells("cut(x, 0, 64)", TOP, 64, {"x": TOP})
        self.tells("cut(x, 0, 63)", 0, 63, {"x": 2 ** 63})
        self.tells("cut(a, 2, (w - 2))", 3, 2, {"a": 0b1101111}, numbers={"w": 4})

    def test_joins(self):
        self.tells("join(a, b)", 0x0102, 16, {"a": 1, "b": 2})
        self.tells("join(c, d)", 2, 2, {"c": 1, "d": 0})
        self.tells("join(c, a)", 0x1FF, 9, {"c": 1, "a": 255})
        self.tells("join(a, c)", 0x1FE, 9, {"a": 255, "c": 0})
        self.tells("join(c, z)", 2 ** 63, 64, {"c": 1, "z": 0})
        self.tells("join(z, c)", TOP, 64, {"z": 2 ** 63 - 1, "c": 1})
        self.tells("join(0:1, a)", 255, 9, {"a": 255})

    def test_fills(self):
        self.tells("fill(a, 8)", 255, 8, {"a": 255})
        self.tells("fill(a, 64)", 255, 64, {"a": 255})
        self.tells("fill(c, (w + 1))", 1, 4, {"c": 1}, numbers={"w": 3})
        self.tells("~fill(c, 8)", 254, 8, {"c": 1})
        self.tells("fill(a, 9) + fill(b, 9)", 510, 9, {"a": 255, "b": 255})

    def test_tables(self):
        for place, number in ((0, 5), (1, 6), (2, 255), (3, 0), (4, 0), (255, 0)):
            self.tells("t[a]", number, 8, {"a": place})
        self.tells("t[c]", 6, 8, {"c": 1})
        self.tells("t[x]", 0, 8, {"x": TOP})
        self.tells("k[c]", TOP, 64, {"c": 0})
        self.tells("k[c]", 0, 64, {"c": 1})
        self.tells("t[t[a]]", 0, 8, {"a": 0})
        self.tells("t[u.s]", 255, 8, {"v.u.s": 2}, "v.")

    def test_memories(self):
        cells = [7, 0, 255, 1]
        for place, word in ((0, 7), (1, 0), (2, 255), (3, 1), (4, 0), (5, 0), (255, 0)):
            self.tells("m[a]", word, 8, {"a": place, "m": cells})
        self.tells("m[x]", 0, 8, {"x": TOP, "m": cells})
        self.tells("n[c]", 1, 1, {"c": 0, "n": [1]})
        self.tells("n[c]", 0, 1, {"c": 1, "n": [1]})
        self.tells("m[m[a]]", 1, 8, {"a": 0, "m": [3, 0, 0, 1]})
        self.tells("m[a]", 9, 8, {"u.a": 0, "u.m": [9], "a": 1, "m": [1, 2]}, "u.")

    def test_worth_goes_by_what_is_seen_alone(self):
        made = piece("a + m[b]")
        seen = {"a": 1, "b": 0, "m": [5]}
        self.assertEqual(made.worth(seen), 6)
        seen["m"][0] = 7
        self.assertEqual(made.worth(seen), 8)
        self.assertEqual(made.worth({"a": 200, "b": 1, "m": [5]}), 200)
        self.assertEqual(made.worth({"a": 1, "b": 0, "m": [5]}), 6)


class TestAsks(unittest.TestCase):
    def asks(self, text, names, path=""):
        made = piece(text, path)
        self.assertEqual(made.asks(), names, text)
        told = made.asks()
        told.append("zz")
        told[0] = "zz"
        self.assertEqual(made.asks(), names, text)

    def test_each_kind(self):
        self.asks("5:8", [])
        self.asks("a", ["a"])
        self.asks("u.s", ["u.s"])
        self.asks("~a", ["a"])
        self.asks("cut(a, 0, 1)", ["a"])
        self.asks("fill(a, 8)", ["a"])
        self.asks("join(b, a)", ["b", "a"])
        self.asks("if c then b else a", ["c", "b", "a"])
        for sign in ("&", "|", "^", "+", "-", "==", "<"):
            self.asks(f"b {sign} a", ["b", "a"])

    def test_places_but_not_memories_and_tables(self):
        self.asks("t[a]", ["a"])
        self.asks("m[a]", ["a"])
        self.asks("m[1:8]", [])
        self.asks("t[m[b]] + m[t[a]]", ["b", "a"])

    def test_each_once_as_they_stand(self):
        self.asks("a + a", ["a"])
        self.asks("b + a + b", ["b", "a"])
        self.asks("if c then m[b] else u.s + b + a + u.s", ["c", "b", "u.s", "a"])
        self.asks("cut(join(a, b), 0, 8) + b + a", ["a", "b"])

    def test_full_names(self):
        self.asks("a + u.s + m[b]", ["v.a", "v.u.s", "v.b"], "v.")
        self.asks("u.s + u.s", ["v.k.u.s"], "v.k.")


class TestParts(unittest.TestCase):
    def parts(self, text, *within):
        made = piece(text)
        told = made.parts()
        self.assertIs(type(told), list)
        seen = {"a": 1, "b": 2, "c": 0, "d": 1, "x": 5, "y": 6, "z": 7, "v": 8, "u.s": 9, "u.t": 1, "m": [3], "n": [1]}
        for one, other in zip(told, within):
            self.assertIsInstance(one, Piece)
            other = piece(other)
            self.assertEqual((one.width(), one.worth(seen), one.asks()), (other.width(), other.worth(seen), other.asks()))
        self.assertEqual(len(told), len(within), text)
        told.append("zz")
        told[0] = "zz"
        self.assertEqual(len(made.parts()), len(within))
        self.assertNotIn("zz", made.parts())
        made.worth(seen)
        made.asks()

    def test_none(self):
        for text in ("5:8", "a", "u.s"):
            self.parts(text)

    def test_one(self):
        for text in ("~a", "t[a]", "m[a]", "cut(a, 0, 4)", "fill(a, 9)"):
            self.parts(text, "a")

    def test_two_from_the_left(self):
        for sign in ("&", "|", "^", "+", "-", "==", "<"):
            self.parts(f"a {sign} b", "a", "b")
        self.parts("join(a, c)", "a", "c")

    def test_three_from_the_left(self):
        self.parts("if c then a else b", "c", "a", "b")

    def test_those_right_beneath_alone(self):
        self.parts("a + b + u.s", "a + b", "u.s")
        self.parts("m[t[a]]", "t[a]")
        self.parts("if a == b then cut(join(a, b), 4, 8) else 1:8", "a == b", "cut(join(a, b), 4, 8)", "1:8")


class TestManyPieces(unittest.TestCase):
    def test_beside_a_model(self):
        choice = random.Random(3)
        many = 0
        for yard in sound_yards(150, 21):
            model = Model(yard)
            pieces = dict(wired_of(yard).names)
            self.assertEqual(set(pieces), set(model.terms))
            words = {name: choice.choice((0, 2 ** width - 1, choice.randrange(2 ** width)))
                     for name, width in model.widths.items()}
            seen = dict(words)
            for name, size, _ in model.storing:
                model.stores[name] = [choice.randrange(2 ** model.widths[name]) for _ in range(size)]
                seen[name] = list(model.stores[name])
            for name, (term, path, numbers) in model.terms.items():
                model.words = words
                word, width = model.worth(term, path, numbers)
                self.assertEqual((pieces[name].worth(seen), pieces[name].width()), (word, width), term)
                many += 1
        self.assertGreater(many, 1000)


class TestPlace(unittest.TestCase):
    def test_place(self):
        for thing in (Scope, Piece, piece_of):
            self.assertEqual(thing.__module__, "wireyard.pieces")
        for name in ("width", "worth", "asks", "parts"):
            self.assertIn(name, vars(Piece))
        for name in ("full", "width_of"):
            self.assertIn(name, vars(Scope))


if __name__ == "__main__":
    unittest.main()
