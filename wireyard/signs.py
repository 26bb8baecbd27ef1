"""The words that a row of a yard's text is made of."""

SMALL_LETTERS = "abcdefghijklmnopqrstuvwxyz"
FIGURES = "0123456789"
NAME_SIGNS = "abcdefghijklmnopqrstuvwxyz0123456789"
MOST_NAME_SIGNS = 8
MOST_FIGURES = 20
MARKS = (":", ",", ".", "=", "==", "<", "&", "|", "^", "+", "-", "~", "(", ")", "[", "]")
TOLD_WORDS = (
    "part", "in", "out", "wire", "rest", "let", "use", "table", "memory",
    "if", "then", "else", "cut", "join", "fill",
)


def is_name(thing):
    if not isinstance(thing, str) or not 1 <= len(thing) <= MOST_NAME_SIGNS:
        return False
    if thing[0] not in SMALL_LETTERS or thing in TOLD_WORDS:
        return False
    return all([sign in NAME_SIGNS for sign in thing])


def words_of(row):
    """The words of a row as tuples of kind and word; None where something is none."""
    text = row.partition("#")[0]
    words = []
    at = 0
    while at < len(text):
        end = _end_of(text, at)
        if text[at] != " ":
            word = _word_by(text[at:end])
            if word is None:
                return None
            words.append(word)
        at = end
    return words


def _end_of(text, at):
    """The place behind the longest word, or the one sign, that stands at a place."""
    end = at
    while end < len(text) and text[end] in NAME_SIGNS:
        end += 1
    if end > at:
        return end
    if text[at:at + 2] == "==":
        return at + 2
    return at + 1


def _word_by(text):
    if text in TOLD_WORDS:
        return ("told", text)
    if text in MARKS:
        return ("mark", text)
    if is_name(text):
        return ("name", text)
    number = number_by(text)
    return None if number is None else ("number", number)


def number_by(text):
    """The number that 1 to 20 figures without noughts ahead tell, None of all other texts."""
    if not 1 <= len(text) <= MOST_FIGURES or (text[0] == "0" and text != "0"):
        return None
    return int(text) if all([sign in FIGURES for sign in text]) else None
