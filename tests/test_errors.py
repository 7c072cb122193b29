"""Promise [20]: the errors."""

import unittest

from runsdown import errors
from runsdown.cloths import Cloth
from runsdown.errors import RunError

NAMES = [
    "InvalidLoops", "InvalidFast", "InvalidLoop", "InvalidLot", "InvalidRow", "TooFew", "LeftOver",
    "InvalidChart", "Unbalanced", "InvalidSize", "InvalidPlace", "InvalidWidth", "InvalidPins",
    "InvalidEnds", "Unfit", "NothingToUndo", "InvalidText", "InvalidOrder", "WouldRun",
]
CLASSES = [getattr(errors, name) for name in NAMES]
VALUES = [
    0, -1, 3, 10 ** 39, None, True, "", "a word", (), (1, 2), [], [[1], (2,)], Cloth([("a", ())], [0]),
]


class ErrorsTest(unittest.TestCase):
    def test_each_class_is_defined_here(self):
        for name, one in zip(["RunError"] + NAMES, [RunError] + CLASSES):
            with self.subTest(name):
                self.assertEqual(one.__name__, name)
                self.assertEqual(one.__module__, "runsdown.errors")

    def test_bases(self):
        self.assertEqual(RunError.__bases__, (ValueError,))
        for one in CLASSES:
            with self.subTest(one.__name__):
                self.assertEqual(one.__bases__, (RunError,))

    def test_caught_as_itself_and_as_those_above(self):
        for one in [RunError] + CLASSES:
            for above in (one, RunError, ValueError):
                with self.subTest(one=one.__name__, above=above.__name__):
                    try:
                        raise one(7)
                    except above as caught:
                        self.assertIs(type(caught), one)
                        self.assertEqual(caught.value, 7)

    def test_no_class_is_above_another_one(self):
        for one in CLASSES:
            self.assertFalse(issubclass(RunError, one))
            for other in CLASSES:
                with self.subTest(one=one.__name__, other=other.__name__):
                    self.assertEqual(issubclass(one, other), one is other)

    def test_not_caught_as_another_one(self):
        for one, other in zip(CLASSES, CLASSES[1:] + CLASSES[:1]):
            with self.subTest(one=one.__name__, other=other.__name__):
                with self.assertRaises(one):
                    try:
                        raise one(7)
                    except other:
                        self.fail("caught as another error")

    def test_value_by_position_and_by_name(self):
        for one in [RunError] + CLASSES:
            for value in VALUES:
                with self.subTest(one=one.__name__, value=value):
                    self.assertIs(one(value).value, value)
                    self.assertIs(one(value=value).value, value)

    def test_just_one_argument(self):
        for one in [RunError] + CLASSES:
            with self.subTest(one.__name__):
                with self.assertRaises(TypeError):
                    one()
                with self.assertRaises(TypeError):
                    one(1, 2)
                with self.assertRaises(TypeError):
                    one(index=1)


if __name__ == "__main__":
    unittest.main()
