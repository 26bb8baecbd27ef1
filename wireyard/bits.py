"""Words of bits: whole numbers of a width, bit 0 the lowest."""

MOST_WIDTH = 64


def is_whole(thing):
    """True and False are ints to Python, but no whole numbers here."""
    return isinstance(thing, int) and not isinstance(thing, bool)


def is_width(thing):
    return is_whole(thing) and 1 <= thing <= MOST_WIDTH


def is_word(thing, width):
    return is_whole(thing) and 0 <= thing <= top_of(width)


def top_of(width):
    """The greatest word of a width."""
    return (1 << width) - 1


def turned(word, width):
    """The word with each bit the other way."""
    return word ^ top_of(width)


def two_words(sign, one, other, width):
    """What a sign makes of two words of one width."""
    if sign == "&":
        return one & other
    if sign == "|":
        return one | other
    if sign == "^":
        return one ^ other
    if sign == "+":
        return (one + other) & top_of(width)
    if sign == "-":
        return (one - other) & top_of(width)
    if sign == "==":
        return 1 if one == other else 0
    return 1 if one < other else 0


def two_width(sign, width):
    """The width of what a sign makes of two words of a width."""
    return 1 if sign in ("==", "<") else width


def cut_word(word, low, many):
    """So many bits of a word, from bit low on."""
    return (word >> low) & top_of(many)


def joined_words(high, low, many):
    """The bits of high above those of low, which has so many."""
    return (high << many) | low


def bits_text(word, width):
    """As many signs 0 and 1 as the width, the highest bit first."""
    return "".join([str((word >> at) & 1) for at in reversed(range(width))])


def word_by_bits(text):
    """The number that signs 0 and 1 tell, None of all else."""
    if not isinstance(text, str) or not is_width(len(text)):
        return None
    word = 0
    for sign in text:
        if sign not in ("0", "1"):
            return None
        word = joined_words(word, int(sign), 1)
    return word
