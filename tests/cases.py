"""What the tests of several modules have in common."""

import unittest

from runsdown.errors import RunError


class Case(unittest.TestCase):
    def wrong(self, error, value, call, *arguments):
        """Hold that a call raises just this error with this value."""
        with self.subTest(arguments=arguments):
            with self.assertRaises(RunError) as caught:
                call(*arguments)
            self.assertIs(type(caught.exception), error)
            self.assertEqual(caught.exception.value, value)
            self.assertIs(type(caught.exception.value), type(value))
