import unittest

from going import GoingTests, text
from refusing import refusal
from sound import sound_yards
from test_looking import FAULTS, with_faults
from wireyard.errors import YardError
from wireyard.plain import Plain


class TestPlain(GoingTests, unittest.TestCase):
    GOES = Plain

    def test_a_yard_that_looked_refuses(self):
        for fault in FAULTS:
            yard = with_faults(fault)
            for _ in range(2):
                with self.assertRaises(YardError) as caught:
                    Plain(yard)
                error = caught.exception
                self.assertEqual((type(error), list(vars(error).values())), refusal(yard))
        Plain(with_faults())

    def test_refused_with_a_part_too_deep_and_names_too_many(self):
        rows = tuple(("in", f"n{k}", ("", 8)) for k in range(301))
        for yard in ((("p", (), rows),), text("part p w", "in a w")):
            with self.assertRaises(YardError) as caught:
                Plain(yard)
            self.assertIs(type(caught.exception), refusal(yard)[0])

    def test_taken_once_it_is_made_good(self):
        for yard in sound_yards(20, 41):
            name, params, rows = yard[-1]
            with self.assertRaises(YardError):
                Plain(yard[:-1] + ((name, params, rows + (("wire", "zz", ("", 8)),)),))
            self.assertEqual(Plain(yard).rests(), Plain(yard).rests())

    def test_place(self):
        self.assertEqual(Plain.__module__, "wireyard.plain")


if __name__ == "__main__":
    unittest.main()
