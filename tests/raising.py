"""The base class of the tests of errors."""

import unittest


class Raising(unittest.TestCase):
    def assert_value(self, error, value, call, *arguments):
        """The call raises this very error with this value."""
        with self.assertRaises(error) as caught:
            call(*arguments)
        self.assertIs(type(caught.exception), error)
        self.assertEqual(caught.exception.value, value, arguments)
