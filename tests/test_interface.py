"""The opening words of "The interface": names, arguments, where they are defined."""

import inspect
import unittest

from runsdown import cloths, errors, needles
from runsdown.cloths import Cloth
from runsdown.needles import needle, work

POSITIONAL = inspect.Parameter.POSITIONAL_OR_KEYWORD
BY_NAME = inspect.Parameter.KEYWORD_ONLY


def told(call):
    parameters = inspect.signature(call).parameters.values()
    return [(one.name, one.kind, one.default) for one in parameters]


def plain(*names):
    return [(name, POSITIONAL, inspect.Parameter.empty) for name in names]


class InterfaceTest(unittest.TestCase):
    def test_defined_where_listed(self):
        for module, names in ((errors, ["RunError"]), (cloths, ["Cloth"]), (needles, ["work", "needle"])):
            for name in names:
                with self.subTest(name):
                    self.assertEqual(getattr(module, name).__module__, module.__name__)

    def test_methods_of_cloth_stand_in_it(self):
        for name in ("children", "along", "with_fast", "without_fast", "__add__", "__len__", "__eq__"):
            with self.subTest(name):
                self.assertTrue(inspect.isfunction(vars(Cloth)[name]))
        for name in ("loops", "fast", "threads"):
            with self.subTest(name):
                self.assertIsInstance(vars(Cloth)[name], property)

    def test_arguments(self):
        cloth = Cloth([], [])
        self.assertEqual(told(Cloth), plain("loops", "fast"))
        self.assertEqual(told(cloth.children), plain("loop"))
        self.assertEqual(told(cloth.along), plain("thread"))
        self.assertEqual(told(cloth.with_fast), plain("loop"))
        self.assertEqual(told(cloth.without_fast), plain("loop"))
        self.assertEqual(told(needle), plain("thread", "width", "rows"))
        self.assertEqual(told(work), plain("thread", "width", "rows") + [("bound", BY_NAME, True)])

    def test_properties_cannot_be_assigned(self):
        cloth = Cloth([("a", ())], [0])
        for name in ("loops", "fast", "threads"):
            with self.subTest(name):
                with self.assertRaises(AttributeError):
                    setattr(cloth, name, [])
        self.assertEqual((cloth.loops, cloth.fast, cloth.threads), ([("a", ())], [0], ["a"]))


if __name__ == "__main__":
    unittest.main()
