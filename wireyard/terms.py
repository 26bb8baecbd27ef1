"""Terms, from words to tuples."""

from wireyard.binding import LONE_LEVEL, PICK_LEVEL, SIGN_LEVELS, TIGHT_LEVEL
from wireyard.cursor import width_at
from wireyard.errors import BadText
from wireyard.walks import kids_of

MOST_DEEP = 10
MOST_TREES = 40
MOST_BRACKETS = 10
MOST_LOW = 63


def term_at(cursor):
    """The term that begins at the cursor."""
    term = TermReader(cursor).whole()
    if _depth_of(term) > MOST_DEEP:
        raise BadText(cursor.row)
    return term


def _depth_of(term):
    return 1 + max([_depth_of(kid) for kid in kids_of(term)], default=0)


class TermReader:
    """Reads one term; what is open and what is made are counted, so that no text leads too deep."""

    def __init__(self, cursor):
        self.cursor = cursor
        self.trees = 0
        self.brackets = 0
        self.picks = 0

    def refuse_above(self, many, most):
        if many > most:
            raise BadText(self.cursor.row)

    def made(self, term):
        self.trees += 1
        self.refuse_above(self.trees, MOST_TREES)
        return term

    def enter(self, opening):
        self.cursor.need(opening)
        self.brackets += 1
        self.refuse_above(self.brackets, MOST_BRACKETS)

    def leave(self, closing):
        self.cursor.need(closing)
        self.brackets -= 1

    def whole(self):
        if self.cursor.skip("if"):
            return self.pick()
        return self.sided(PICK_LEVEL + 1)

    def pick(self):
        """What stands behind an if."""
        self.picks += 1
        self.refuse_above(self.picks, MOST_DEEP)
        test = self.whole()
        self.cursor.need("then")
        one = self.whole()
        self.cursor.need("else")
        other = self.whole()
        self.picks -= 1
        return self.made(("pick", test, one, other))

    def sided(self, level):
        """A term whose outer signs bind at a level or tighter."""
        if level == TIGHT_LEVEL:
            return self.turned()
        term = self.sided(level + 1)
        while SIGN_LEVELS.get(self.cursor.seen()) == level:
            sign = self.cursor.take("mark")
            term = self.made(("two", sign, term, self.sided(level + 1)))
            if level == LONE_LEVEL:
                return term
        return term

    def turned(self):
        # The bound of 10 signs ~ side by side needs no count of its own: they are too deep already.
        turns = 0
        while self.cursor.skip("~"):
            turns += 1
        term = self.tight()
        for _ in range(turns):
            term = self.made(("not", term))
        return term

    def tight(self):
        """A number, a name, or what is held together by brackets."""
        if self.cursor.has("number"):
            return self.number()
        if self.cursor.has("name"):
            return self.named()
        if self.cursor.has("told"):
            return self.called()
        return self.bracketed("(", ")")

    def number(self):
        number = self.cursor.take("number")
        self.cursor.need(":")
        return self.made(("number", number, width_at(self.cursor)))

    def named(self):
        name = self.cursor.take("name")
        if self.cursor.skip("."):
            return self.made(("of", name, self.cursor.take("name")))
        if self.cursor.seen() == "[":
            return self.made(("at", name, self.bracketed("[", "]")))
        return self.made(("name", name))

    def bracketed(self, opening, closing):
        self.enter(opening)
        term = self.whole()
        self.leave(closing)
        return term

    def called(self):
        """A cut, a join or a fill."""
        word = self.cursor.take("told")
        if word not in ("cut", "join", "fill"):
            raise BadText(self.cursor.row)
        self.enter("(")
        term = self.whole()
        self.cursor.need(",")
        if word == "cut":
            low = self.cursor.take_number(0, MOST_LOW)
            self.cursor.need(",")
            made = ("cut", term, low, width_at(self.cursor))
        elif word == "join":
            made = ("join", term, self.whole())
        else:
            made = ("fill", term, width_at(self.cursor))
        self.leave(")")
        return self.made(made)
