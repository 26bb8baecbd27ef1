"""The first going of looking: names, part by part as they stand."""

from wireyard.errors import BadWidth, Lacking, Twice, Unwired
from wireyard.walks import kids_of, names_told, row_terms, row_widths

# Where a part as a whole is refused, and none of its rows.
NO_ROW = -1


class Naming:
    """One part and what its names may mean, ahead being a dict of the parts ahead of it."""

    def __init__(self, part, ahead):
        self.name, self.params, self.rows = part
        self.ahead = ahead
        self.wired = names_told(part, "out") + names_told(part, "wire")
        self.words = self.wired + names_told(part, "in") + names_told(part, "rest")
        self.stores = names_told(part, "table") + names_told(part, "memory")
        self.used = {row[1]: row[2] for row in self.rows if row[0] == "use"}

    def need_all(self):
        self.need_head()
        self.need_told()
        self.need_terms()
        self.need_lets()

    def need_head(self):
        if self.name in self.ahead:
            raise Twice(self.name, NO_ROW, self.name)
        for at, param in enumerate(self.params):
            if param in self.params[:at]:
                raise Twice(self.name, NO_ROW, param)

    def need_told(self):
        """What rows tell, without their terms."""
        told = {}
        for at, row in enumerate(self.rows):
            if row[0] != "let":
                if row[1] in told:
                    raise Twice(self.name, at, row[1])
                told[row[1]] = True
            for width in row_widths(row):
                if self.lacks_param(width):
                    raise Lacking(self.name, at, width[0])
            if row[0] == "use":
                self.need_use(at, row)

    def need_use(self, at, row):
        _, use, used, widths, terms = row
        if used not in self.ahead:
            raise Lacking(self.name, at, used)
        part = self.ahead[used]
        if len(widths) != len(part[1]):
            raise BadWidth(self.name, at, use)
        if len(terms) != len(names_told(part, "in")):
            raise Unwired(self.name, at, use)

    def need_terms(self):
        """What lets wire, and all names within terms."""
        wired = {}
        for at, row in enumerate(self.rows):
            if row[0] == "let":
                if row[1] not in self.wired:
                    raise Lacking(self.name, at, row[1])
                if row[1] in wired:
                    raise Twice(self.name, at, row[1])
                wired[row[1]] = True
            for term in row_terms(row):
                lacking = self.lacking_in(term)
                if lacking is not None:
                    raise Lacking(self.name, at, lacking)

    def need_lets(self):
        lets = [row[1] for row in self.rows if row[0] == "let"]
        for at, row in enumerate(self.rows):
            if row[0] in ("out", "wire") and row[1] not in lets:
                raise Unwired(self.name, at, row[1])

    def lacks_param(self, width):
        return width[0] != "" and width[0] not in self.params

    def lacking_in(self, term):
        """The first name that lacks in a term, outer ones ahead of those within; None where none lacks."""
        lacking = self.lacking_at(term)
        for kid in kids_of(term):
            if lacking is None:
                lacking = self.lacking_in(kid)
        return lacking

    def lacking_at(self, term):
        """The name that lacks in a term by itself, without those within it."""
        kind = term[0]
        if kind == "name":
            return None if term[1] in self.words else term[1]
        if kind == "of":
            return self.lacking_door(term[1], term[2])
        if kind == "at":
            return None if term[1] in self.stores else term[1]
        if kind in ("number", "cut", "fill"):
            return term[-1][0] if self.lacks_param(term[-1]) else None
        return None

    def lacking_door(self, use, door):
        if use not in self.used:
            return use
        return None if door in names_told(self.ahead[self.used[use]], "out") else door


def need_names(yard):
    """Refuses a yard whose names stand twice, lack or have no term."""
    ahead = {}
    for part in yard:
        Naming(part, ahead).need_all()
        ahead[part[0]] = part
