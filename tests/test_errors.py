"""Promise [3]: the error classes."""

import unittest

from twinsieve import errors

NAMES = ("InvalidRow", "InvalidPipeline", "InvalidNumber", "NothingToUndo", "Unreadable")
VALUES = (0, 7, -3, 10 ** 40, "", "T1 S", None, (), (3, "x"))


def classes():
    return [getattr(errors, name) for name in NAMES]


class ErrorClasses(unittest.TestCase):
    def test_base_class(self):
        self.assertEqual(errors.SieveError.__bases__, (ValueError,))

    def test_direct_base_of_each_class(self):
        for made in classes():
            self.assertEqual(made.__bases__, (errors.SieveError,), made)

    def test_no_class_is_a_subclass_of_another_one(self):
        for first in classes():
            for second in classes():
                self.assertEqual(issubclass(first, second), first is second, (first, second))

    def test_there_is_no_other_error_class(self):
        found = [
            name
            for name, thing in vars(errors).items()
            if isinstance(thing, type) and issubclass(thing, BaseException)
        ]
        self.assertEqual(sorted(found), sorted(NAMES + ("SieveError",)))

    def test_value_by_position(self):
        for made in classes():
            for value in VALUES:
                self.assertIs(made(value).value, value)

    def test_value_by_name(self):
        for made in classes():
            for value in VALUES:
                self.assertIs(made(value=value).value, value)

    def test_exactly_one_argument(self):
        for made in classes():
            with self.assertRaises(TypeError):
                made()
            with self.assertRaises(TypeError):
                made(1, 2)
            with self.assertRaises(TypeError):
                made(index=1)

    def test_each_class_has_a_constructor_of_its_own(self):
        for made in classes():
            self.assertIn("__init__", vars(made))

    def test_raised_and_caught_by_each_base(self):
        for made in classes():
            for base in (made, errors.SieveError, ValueError):
                with self.assertRaises(base) as caught:
                    raise made((1, 2))
                self.assertEqual(caught.exception.value, (1, 2))


if __name__ == "__main__":
    unittest.main()
