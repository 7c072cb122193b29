"""The opening words of "The interface": names, arguments, where they are defined."""

import inspect
import unittest

from runsdown import (
    bands, charts, cloths, console, cutting, errors, heights, live, maps, needles, pins, pulls, runs, tears, texts)
from runsdown.charts import Chart
from runsdown.cloths import Cloth
from runsdown.console import Console
from runsdown.live import GuardedCloth, LiveCloth
from runsdown.needles import needle, work

FUNCTIONS = {
    runs: {
        "standing": ("cloth", "cuts"), "run": ("cloth", "cuts"), "way_up": ("cloth", "cuts", "loop"),
        "run_order": ("cloth", "cuts"), "judge_way": ("cloth", "cuts", "loop", "value"),
        "judge_order": ("cloth", "cuts", "value"), "taken": ("cloth", "loop"), "taker": ("cloth", "loop"),
        "takers": ("cloth",), "worst_cut": ("cloth",),
    },
    cutting: {
        "fewest_cuts": ("cloth", "loop"), "cuts_for": ("cloth", "loop"), "ways_for": ("cloth", "loop"),
        "judge_ways": ("cloth", "loop", "value"), "fewest_for_all": ("cloth", "lot"),
        "cuts_for_all": ("cloth", "lot"), "ways_for_all": ("cloth", "lot"), "is_run_lot": ("cloth", "lot"),
        "least_cuts": ("cloth", "lot"), "fits": ("cloth", "stood", "ran"), "least_run": ("cloth", "stood", "ran"),
        "surely": ("cloth", "stood", "ran"), "shown": ("cloth", "stood", "ran", "loop"), "adds_up": ("cloth",),
        "joint_cuts": ("cloth",),
    },
    charts: {
        "cloth_at": ("chart", "m", "n"), "loop_at": ("chart", "m", "n", "time", "row", "number"),
    },
    maps: {
        "left_end": ("chart", "row", "number"), "right_end": ("chart", "row", "number"),
        "below": ("chart", "row", "left", "right"), "ends_at": ("chart", "row", "left", "right", "rows"),
        "first_child": ("chart", "row", "number"), "last_child": ("chart", "row", "number"),
        "needed": ("chart", "row", "left", "right", "rows"), "turns": ("chart",),
    },
    tears: {
        "depth": ("chart", "row", "cell", "width"), "depth_form": ("chart", "row", "cell"),
        "held_width": ("chart", "row", "cell"), "last_loops": ("chart", "row", "cell", "width"),
        "loops_run": ("chart", "row", "cell", "width", "rows"), "least_width": ("chart", "row", "cell", "rows"),
        "greatest_depth": ("chart", "width"), "worst_place": ("chart", "width"),
        "same_depths": ("one", "other"), "unlike_depth": ("one", "other"),
    },
    bands: {
        "tears_behind": ("chart", "row", "left", "right", "rows"),
        "longest_behind": ("chart", "row", "left", "right"), "least_needed": ("chart", "row", "left", "right"),
    },
    heights: {
        "hold": ("chart", "row", "cell", "rows"), "hold_drops": ("chart", "row", "cell"),
        "hold_for_ever": ("chart", "row", "cell"), "hold_cuts": ("chart", "row", "cell", "rows"),
        "hold_ways": ("chart", "row", "cell", "rows"),
    },
    pins: {
        "lot_below": ("chart", "pins", "row", "numbers"),
        "pinned_depth": ("chart", "pins", "row", "cell", "width"), "is_safe": ("chart", "pins"),
        "unsafe_tear": ("chart", "pins"), "least_pins": ("chart", "most"),
    },
    pulls: {
        "pieces": ("cloth", "cuts"), "comes_out": ("cloth", "cuts", "ends"), "pull_order": ("cloth", "cuts", "ends"),
        "judge_pulls": ("cloth", "cuts", "ends", "value"), "out_ahead": ("cloth", "cuts", "ends", "loop"),
        "needless_ends": ("cloth", "cuts", "ends"),
    },
    texts: {
        "write_cloth": ("cloth",), "read_cloth": ("text",), "write_chart": ("chart",), "read_chart": ("text",),
    },
}
METHODS = {
    Cloth: ("children", "along", "with_fast", "without_fast", "__add__", "__len__", "__eq__"),
    Chart: ("wider", "taller", "__add__", "__len__", "__eq__"),
    LiveCloth: ("row", "bind", "cut", "pin", "unpin", "undo", "twin", "__len__", "__eq__"),
    GuardedCloth: ("twin", "__eq__"),
    Console: ("execute",),
}
PROPERTIES = {
    Cloth: ("loops", "fast", "threads"), Chart: ("width", "rows", "counts"), LiveCloth: ("cloth", "needle", "gone"),
    GuardedCloth: ("kept",),
}

POSITIONAL = inspect.Parameter.POSITIONAL_OR_KEYWORD
BY_NAME = inspect.Parameter.KEYWORD_ONLY


def told(call):
    parameters = inspect.signature(call).parameters.values()
    return [(one.name, one.kind, one.default) for one in parameters]


def plain(*names):
    return [(name, POSITIONAL, inspect.Parameter.empty) for name in names]


class InterfaceTest(unittest.TestCase):
    def test_defined_where_listed(self):
        listed = [
            (errors, "RunError"), (cloths, "Cloth"), (needles, "work"), (needles, "needle"), (charts, "Chart"),
            (live, "LiveCloth"), (live, "GuardedCloth"), (console, "Console")]
        for module, name in listed + [(module, name) for module, names in FUNCTIONS.items() for name in names]:
            with self.subTest(name):
                self.assertEqual(getattr(module, name).__module__, module.__name__)

    def test_methods_stand_in_their_class(self):
        for one, names in METHODS.items():
            for name in names:
                with self.subTest(name):
                    self.assertTrue(inspect.isfunction(vars(one)[name]))
        for one, names in PROPERTIES.items():
            for name in names:
                with self.subTest(name):
                    self.assertIsInstance(vars(one)[name], property)

    def test_arguments_of_functions(self):
        for module, names in FUNCTIONS.items():
            for name, parameters in names.items():
                with self.subTest(name):
                    self.assertEqual(told(getattr(module, name)), plain(*parameters))
        self.assertEqual(told(needle), plain("thread", "width", "rows"))
        self.assertEqual(told(work), plain("thread", "width", "rows") + [("bound", BY_NAME, True)])

    def test_arguments_of_classes(self):
        cloth = Cloth([], [])
        self.assertEqual(told(Cloth), plain("loops", "fast"))
        self.assertEqual(told(cloth.children), plain("loop"))
        self.assertEqual(told(cloth.along), plain("thread"))
        self.assertEqual(told(cloth.with_fast), plain("loop"))
        self.assertEqual(told(cloth.without_fast), plain("loop"))
        chart = Chart(1, [("a", 0, ((1, 1),))])
        self.assertEqual(told(Chart), plain("width", "rows"))
        self.assertEqual(told(chart.wider), plain("times"))
        self.assertEqual(told(chart.taller), plain("times"))
        self.assertEqual(told(LiveCloth), plain("thread", "width"))
        self.assertEqual(told(GuardedCloth), plain("thread", "width") + [("kept", BY_NAME, inspect.Parameter.empty)])
        self.assertEqual(GuardedCloth.__bases__, (LiveCloth,))
        for one in (LiveCloth("a", 1), GuardedCloth("a", 1, kept=())):
            self.assertEqual(told(one.row), plain("thread", "stitches"))
            for deed in (one.cut, one.pin, one.unpin):
                self.assertEqual(told(deed), plain("loop"))
            for deed in (one.bind, one.undo, one.twin):
                self.assertEqual(told(deed), [])
        self.assertEqual(told(Console), plain("thread", "width"))
        self.assertEqual(told(Console("a", 1).execute), plain("order"))

    def test_properties_cannot_be_assigned(self):
        cloth, chart = Cloth([("a", ())], [0]), Chart(1, [("a", 0, ((1, 1),))])
        for one in (cloth, chart, LiveCloth("a", 1), GuardedCloth("a", 1, kept=("a",))):
            for name in PROPERTIES[one.__class__]:
                with self.subTest(name):
                    with self.assertRaises(AttributeError):
                        setattr(one, name, [])
        self.assertEqual((cloth.loops, cloth.fast, cloth.threads), ([("a", ())], [0], ["a"]))
        self.assertEqual((chart.width, chart.rows, chart.counts), (1, [("a", 0, ((1, 1),))], [1, 1]))


if __name__ == "__main__":
    unittest.main()
