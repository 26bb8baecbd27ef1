"""What looked says of yards, for the tests of looking."""

import copy
import unittest

from wireyard.errors import YardError
from wireyard.looking import looked
from wireyard.reading import read


def refusal(yard):
    """What looked refuses a yard with: the class and its fields; None where it lets it by."""
    before = copy.deepcopy(yard)
    told = []
    for _ in range(2):
        try:
            told.append((None, looked(yard)))
        except YardError as error:
            told.append((type(error), list(vars(error).values())))
    assert yard == before and told[0] == told[1], told
    return told[0] if told[0][0] is not None else told[0][1]


class Looking(unittest.TestCase):
    def lets_by(self, *lines):
        self.assertIsNone(refusal(read("\n".join(lines))), lines)

    def refuses(self, kind, part, row, name, *lines):
        self.assertEqual(refusal(read("\n".join(lines))), (kind, [part, row, name]), lines)

    def refuses_yard(self, kind, part, row, name, yard):
        self.assertEqual(refusal(yard), (kind, [part, row, name]), yard)
