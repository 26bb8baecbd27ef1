import inspect
import unittest

from wireyard import errors

AT = ("BadText", "BadTrace")
PLACED = ("Lacking", "Twice", "BadWidth", "Unwired", "TooDeep")
OF_A_TEXT = ("TooMany", "BadDoors", "BadNet", "BadLine")


def class_named(name):
    return getattr(errors, name)


class TestFamily(unittest.TestCase):
    def test_yard_error_stands_straight_under_value_error(self):
        self.assertEqual(errors.YardError.__bases__, (ValueError,))

    def test_each_class_stands_straight_under_yard_error(self):
        for name in AT + PLACED + OF_A_TEXT + ("Ring",):
            with self.subTest(name):
                self.assertEqual(class_named(name).__bases__, (errors.YardError,))
                self.assertEqual(class_named(name).__subclasses__(), [])

    def test_there_are_no_others(self):
        found = [name for name, thing in vars(errors).items() if inspect.isclass(thing)]
        self.assertEqual(sorted(found), sorted(AT + PLACED + OF_A_TEXT + ("Ring", "YardError")))

    def test_each_is_defined_in_this_file(self):
        for name in AT + PLACED + OF_A_TEXT + ("Ring", "YardError"):
            self.assertEqual(class_named(name).__module__, "wireyard.errors")

    def test_none_is_caught_as_another(self):
        with self.assertRaises(errors.Twice):
            try:
                raise errors.Twice("a", 0, "b")
            except errors.Lacking:
                self.fail("caught as another one")


class TestFields(unittest.TestCase):
    def test_at(self):
        for name in AT:
            for at in (0, 7, None):
                with self.subTest(name, at=at):
                    error = class_named(name)(at)
                    self.assertEqual(vars(error), {"at": at})
                    self.assertIsInstance(str(error), str)

    def test_part_row_name_in_this_order(self):
        for name in PLACED:
            with self.subTest(name):
                error = class_named(name)("adder", -1, "w")
                self.assertEqual(list(vars(error).items()), [("part", "adder"), ("row", -1), ("name", "w")])
                self.assertIsInstance(str(error), str)

    def test_too_few_and_too_many_fields_are_no_error_of_a_kind(self):
        for name in AT + PLACED + ("Ring",):
            with self.subTest(name):
                with self.assertRaises(TypeError):
                    class_named(name)()
                with self.assertRaises(TypeError):
                    class_named(name)("a", 1, "b", "c")

    def test_ring_has_a_list_of_names(self):
        error = errors.Ring(["a", "u.b"])
        self.assertEqual(list(vars(error).items()), [("names", ["a", "u.b"])])
        self.assertIs(type(error.names), list)

    def test_ring_keeps_nothing_that_was_handed_in(self):
        names = ["a", "b"]
        error = errors.Ring(names)
        names.append("c")
        names[0] = "z"
        self.assertEqual(error.names, ["a", "b"])
        self.assertIsNot(error.names, names)
        self.assertFalse([thing for thing in error.args if thing is names])

    def test_changing_the_names_of_a_ring_changes_nothing_handed_in(self):
        names = ["a", "b"]
        errors.Ring(names).names.append("c")
        self.assertEqual(names, ["a", "b"])

    def test_made_of_a_text(self):
        for name in OF_A_TEXT:
            with self.subTest(name):
                self.assertEqual(str(class_named(name)("the third door")), "the third door")

    def test_each_can_be_raised_and_caught_as_value_error(self):
        made = [class_named(name)(3) for name in AT]
        made += [class_named(name)("p", 0, "n") for name in PLACED]
        made += [class_named(name)("text") for name in OF_A_TEXT]
        made.append(errors.Ring(["a"]))
        for error in made:
            with self.subTest(repr(error)):
                with self.assertRaises(ValueError):
                    raise error
                with self.assertRaises(errors.YardError):
                    raise error


if __name__ == "__main__":
    unittest.main()
