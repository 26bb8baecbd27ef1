"""Columns: what tells 0 or 1 of each of some words, as one whole number with a bit for each of them.

Columns take the place of a diagram's knots where words are many-sided: a column has the same size whatever it tells.
"""


class Columns:
    """Columns over all words of so many bits.

    The words stand in the order in which a diagram goes through them: those whose first bit is 0 ahead of those whose
    first bit is 1, and likewise by the next bits. The k-th bit of a column tells 0 or 1 of the k-th word.
    """

    def __init__(self, places):
        self.places = places
        self.whole = (1 << (1 << places)) - 1

    def bit(self, place):
        """The column that tells a bit of the words."""
        size = 1 << (self.places - 1 - place)
        return self.whole // ((1 << size) + 1) << size

    def both(self, one, other):
        return one & other

    def either(self, one, other):
        return one | other

    def unlike(self, one, other):
        return one ^ other

    def turned(self, column):
        return column ^ self.whole

    def chosen(self, test, one, other):
        """The column that tells what one tells where the test tells 1, else what other tells."""
        return other ^ (test & (one ^ other))

    def first(self, column):
        """Where the first word stands of which a column tells 1, such a word being there."""
        return (column & -column).bit_length() - 1

    def parted(self, columns):
        """The words parted by what these columns tell of them.

        For each part, in order: where its first word stands, and the number whose bits are what the columns tell.
        """
        parts = [(self.whole, 0)]
        for at, column in enumerate(columns):
            beside = self.turned(column)
            ones = [(words & column, told + (1 << at)) for words, told in parts]
            noughts = [(words & beside, told) for words, told in parts]
            parts = [part for part in ones + noughts if part[0] != 0]
        return sorted([(self.first(words), told) for words, told in parts])
