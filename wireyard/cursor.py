"""The words of one row, gone through from the left."""

from wireyard.bits import MOST_WIDTH
from wireyard.errors import BadText


class Cursor:
    """Stands ahead of a word; all that does not go on as it is needed is refused at the row."""

    def __init__(self, words, row):
        self.words = list(words)
        self.row = row
        self.at = 0

    def seen(self):
        """The next word, None behind the last one."""
        if self.at == len(self.words):
            return None
        return self.words[self.at][1]

    def has(self, kind):
        """Whether the next word is of a kind."""
        return self.at < len(self.words) and self.words[self.at][0] == kind

    def take(self, kind):
        """The next word, which must be of a kind; it is passed."""
        if not self.has(kind):
            raise BadText(self.row)
        word = self.seen()
        self.at += 1
        return word

    def take_number(self, least, most):
        number = self.take("number")
        if not least <= number <= most:
            raise BadText(self.row)
        return number

    def skip(self, word):
        """Whether the next word is this one; if so, it is passed."""
        if self.seen() != word:
            return False
        self.at += 1
        return True

    def need(self, word):
        if not self.skip(word):
            raise BadText(self.row)

    def need_end(self):
        if self.at < len(self.words):
            raise BadText(self.row)


def width_at(cursor):
    """The width that begins at the cursor, as a tuple of a param's name and a number."""
    if cursor.has("number"):
        return ("", cursor.take_number(1, MOST_WIDTH))
    if not cursor.skip("("):
        return (cursor.take("name"), 0)
    name = cursor.take("name")
    less = cursor.skip("-")
    if not less:
        cursor.need("+")
    number = cursor.take_number(1, MOST_WIDTH)
    cursor.need(")")
    return (name, -number if less else number)
