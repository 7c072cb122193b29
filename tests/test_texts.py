"""Promises [2], [3], [20], [34]: cloths and charts as texts."""

import itertools
import random
import unittest

from runsdown.charts import Chart, cloth_at
from runsdown.cloths import Cloth
from runsdown.errors import InvalidText, RunError
from runsdown.texts import read_chart, read_cloth, write_chart, write_cloth
from tests.cases import Case
from tests.models import all_cloths, drawn_charts, drawn_cloths, steady_charts
from tests.test_tears import LEAN, SOME, STAR

NO_TEXTS = [None, True, False, 0, 3, 10 ** 39, (), ("=",), ["=\n"], [], Cloth([], []), RunError(0), b"=\n"]
SMALL = Cloth([("a", ()), ("a", ()), ("b", (0,)), ("b", (0, 1))], [2, 3])
SMALL_TEXT = "a\na\nb 0\nb 0 1\n= 2 3\n"
SOME_TEXT = "width 3\na 2 1:2 2:1\nb 0 0:1 3:3 0:1\ncord 4 2:1 2:1 1:1\n"


class ClothTest(Case):
    def test_ordinary(self):
        self.assertEqual(write_cloth(SMALL), SMALL_TEXT)
        self.assertEqual(read_cloth(SMALL_TEXT), SMALL)
        self.assertIs(type(read_cloth(SMALL_TEXT)), Cloth)

    def test_no_loops_and_none_fast(self):
        self.assertEqual(write_cloth(Cloth([], [])), "=\n")
        self.assertEqual(read_cloth("=\n"), Cloth([], []))
        self.assertEqual(write_cloth(Cloth([("a", ())], [])), "a\n=\n")
        self.assertEqual(read_cloth("a\n=\n"), Cloth([("a", ())], []))

    def test_fast_in_whatever_sequence(self):
        self.assertEqual(write_cloth(Cloth([("a", ())] * 12, [11, 3, 10])).split("\n")[12], "= 3 10 11")

    def test_written_and_read_again(self):
        great = cloth_at(Chart(8, [("a", 3, ((3, 1), (1, 3), (1, 2), (3, 2)))]), 5, 4)
        for cloth in itertools.chain([great], all_cloths(3), drawn_cloths(151, 200, 0, 60)):
            text = write_cloth(cloth)
            lines = text.split("\n")
            self.assertEqual(len(lines), len(cloth) + 2)
            for line, (thread, parents) in zip(lines, cloth.loops):
                self.assertEqual(line, " ".join([thread] + [str(parent) for parent in parents]))
            self.assertEqual(lines[-2:], [" ".join(["="] + [str(loop) for loop in cloth.fast]), ""])
            self.assertEqual(read_cloth(text), cloth)

    def test_threads_that_are_words(self):
        for thread in ("width", "none", "row", "cut", "abcdefgh"):
            cloth = Cloth([(thread, ()), (thread, (0,))], [1])
            self.assertEqual(read_cloth(write_cloth(cloth)), cloth)

    def test_lines_that_can_stand_nowhere(self):
        for line in (
                "", " ", " a", "a ", "a  0", "a\t0", "A", "a1", "abcdefghi", "a b", "a -0", "a +0", "a 00", "a 0 ",
                "a 0 0", "a 1 0", "a 2", "a 0 2", "a 10", "a 0000000000", "a 1000000000", "a 0x", "a 0,1", "a 0.",
                "==", "= ", " =", "=0", "= 2", "= 00", "= 1 0", "= 0 0", "= 0  1", "= a", "= -1", "= 1000000000",
                "0", "1 0", "a\u0660", "a \u0660", "a \u00b2", "\u00e4"):
            for rest in ("a\n= 0\n", "", "=\n", "?\n"):
                self.wrong(InvalidText, 2, read_cloth, "a\na 0\n" + line + "\n" + rest)
            # Without a newline a line is still one, if it is none that can stand there.
            if line:
                self.wrong(InvalidText, 2, read_cloth, "a\na 0\n" + line)

    def test_what_can_stand_depends_on_the_lines_ahead(self):
        self.wrong(InvalidText, 0, read_cloth, "a 0\n= 0\n")
        self.wrong(InvalidText, 1, read_cloth, "a\na 1\n=\n")
        self.wrong(InvalidText, 0, read_cloth, "= 0\n")
        self.wrong(InvalidText, 1, read_cloth, "a\n= 1\n")
        self.assertEqual(
            read_cloth("a\na 0\na 0 1\n= 0 1 2\n"), Cloth([("a", ()), ("a", (0,)), ("a", (0, 1))], [0, 1, 2]))

    def test_lines_behind_the_last_one(self):
        for rest in ("\n", " \n", "a\n", "=\n", "=", "a", " ", "a\n=\n", "\n\n"):
            self.wrong(InvalidText, 2, read_cloth, "a\n= 0\n" + rest)
            self.wrong(InvalidText, 1, read_cloth, "=\n" + rest)

    def test_what_is_missing(self):
        self.wrong(InvalidText, 0, read_cloth, "")
        self.wrong(InvalidText, 0, read_cloth, "\n")
        self.wrong(InvalidText, 1, read_cloth, "a\n")
        self.wrong(InvalidText, 1, read_cloth, "a")
        self.wrong(InvalidText, 2, read_cloth, "a\na 0\n")
        self.wrong(InvalidText, 1, read_cloth, "=")
        self.wrong(InvalidText, 2, read_cloth, "a\n= 0")
        self.wrong(InvalidText, 3, read_cloth, "a\na 0\n=")
        self.wrong(InvalidText, 3, read_cloth, "a\na 0\na 0")

    def test_digits(self):
        # Nine digits make a number, but none of a loop ahead; ten make none at all.
        for word in ("999999999", "100000000", "1000000000", "0000000001", "01"):
            self.wrong(InvalidText, 1, read_cloth, "a\na " + word + "\n=\n")
        many = "a\n" * 120
        self.assertEqual(read_cloth(many + "= 0 9 10 99 100 119\n").fast, [0, 9, 10, 99, 100, 119])
        self.wrong(InvalidText, 120, read_cloth, many + "= 0 9 10 99 100 120\n")
        self.wrong(InvalidText, 120, read_cloth, many + "= 0 09\n")

    def test_no_texts(self):
        for value in NO_TEXTS:
            self.wrong(InvalidText, 0, read_cloth, value)
            self.wrong(InvalidText, 0, read_chart, value)

    def test_other_breaks_are_no_newlines(self):
        for sign in ("\r", "\x0b", "\x0c", "\x1c", "\x85", "\u2028"):
            self.wrong(InvalidText, 0, read_cloth, "a" + sign + "=\n")
            self.wrong(InvalidText, 1, read_cloth, "a\n=" + sign + "\n")
        self.wrong(InvalidText, 0, read_cloth, "a\r\n=\r\n")

    def test_spoiled_texts(self):
        rng = random.Random(152)
        indexes = set()
        for cloth in drawn_cloths(153, 200, 1, 20):
            text = write_cloth(cloth)
            at = rng.randrange(len(text))
            sign = rng.choice("0:? A\n=")
            spoiled = rng.choice((text[:at] + text[at + 1:], text[:at] + sign + text[at:], text[:at]))
            try:
                again = read_cloth(spoiled)
            except InvalidText as error:
                lines = spoiled.split("\n")
                self.assertLess(error.value, len(lines) + (lines[-1] != ""))
                # The lines ahead of it can stand in a text.
                start = "".join(line + "\n" for line in lines[:error.value])
                self.assertIsInstance(read_cloth(start if "=" in start else start + "=\n"), Cloth)
                indexes.add(error.value)
            else:
                self.assertEqual(write_cloth(again), spoiled)
        self.assertGreater(len(indexes), 8)


class ChartTest(Case):
    def test_ordinary(self):
        self.assertEqual(write_chart(SOME), SOME_TEXT)
        self.assertEqual(read_chart(SOME_TEXT), SOME)
        self.assertIs(type(read_chart(SOME_TEXT)), Chart)
        self.assertEqual(write_chart(STAR), "width 2\na 1 2:2\n")
        self.assertEqual(read_chart("width 3\na 0 1:2 2:1\n"), LEAN)

    def test_written_and_read_again(self):
        for chart in itertools.chain(drawn_charts(154, 150, 8, 12), steady_charts(154, 50, 8, 12)):
            text = write_chart(chart)
            self.assertEqual(text.split("\n")[0], "width " + str(chart.width))
            self.assertEqual(text.count("\n"), len(chart) + 1)
            self.assertEqual(read_chart(text), chart)
        wide = STAR.wider(60)
        self.assertEqual(write_chart(wide), "width 120\na 1" + " 2:2" * 60 + "\n")
        self.assertEqual(read_chart(write_chart(wide)), wide)

    def test_threads_that_are_words(self):
        for thread in ("width", "none", "row"):
            chart = Chart(1, [(thread, 0, ((1, 1),))])
            self.assertEqual(read_chart(write_chart(chart)), chart)

    def test_first_lines(self):
        for line in (
                "", "width", "width ", "width  3", " width 3", "width 3 ", "width 0", "width 03", "width -3", "width a",
                "width 3 3", "Width 3", "wide 3", "width3", "3", "width 1000000000", "width 3:1", "a 0 1:2 2:1", "="):
            self.wrong(InvalidText, 0, read_chart, line + "\na 0 1:2 2:1\n")
            if line:
                self.wrong(InvalidText, 0, read_chart, line)

    def test_rows(self):
        for line in (
                "", " ", "a", "a 0", "a 0 ", "a 0 1:2 2:1 ", " a 0 1:2 2:1", "a  0 1:2 2:1", "a 0  1:2 2:1",
                "a 0 1:2  2:1", "A 0 1:2 2:1", "abcdefghi 0 1:2 2:1", "0 1:2 2:1", "a 1:2 2:1", "a 3 1:2 2:1",
                "a 00 1:2 2:1", "a -1 1:2 2:1", "a 1000000000 1:2 2:1", "a 0 1:2", "a 0 1:2 2:1 1:1", "a 0 3:0",
                "a 0 0:0 3:3", "a 0 4:1", "a 0 3:4", "a 0 1:2 2", "a 0 1:2 2:", "a 0 1:2 :1", "a 0 1:2 2:1:1",
                "a 0 01:2 2:1", "a 0 1:02 2:1", "a 0 1: 2 2:1", "a 0 1;2 2:1", "a 0 pass 2:1", "a 0 -1:1 3:1 1:1",
                "=", "width 3", "a 0 1:2 2:1\t", "a 0 1:2 2:\u0661"):
            for rest in ("", "a 0 1:2 2:1\n", "?\n"):
                self.wrong(InvalidText, 1, read_chart, "width 3\n" + line + "\n" + rest)
            if line:
                self.wrong(InvalidText, 1, read_chart, "width 3\n" + line)
        self.assertEqual(read_chart("width 3\na 0 1:2 2:1\n"), LEAN)

    def test_rows_must_fit_the_rows_ahead(self):
        # Row 0 leaves two loops, row 1 must take just these.
        self.assertEqual(len(read_chart("width 3\na 2 3:2\na 1 2:3\n")), 2)
        self.wrong(InvalidText, 2, read_chart, "width 3\na 2 3:2\na 2 2:3\n")
        self.wrong(InvalidText, 2, read_chart, "width 3\na 2 3:2\na 1 3:3\n")
        self.wrong(InvalidText, 3, read_chart, "width 3\na 2 3:2\na 1 2:3\n\n")

    def test_what_is_missing(self):
        self.wrong(InvalidText, 0, read_chart, "")
        self.wrong(InvalidText, 0, read_chart, "\n")
        self.wrong(InvalidText, 1, read_chart, "width 3")
        self.wrong(InvalidText, 1, read_chart, "width 3\n")
        self.wrong(InvalidText, 1, read_chart, "width 999999999\n")
        self.wrong(InvalidText, 2, read_chart, "width 3\na 0 1:2 2:1")
        self.wrong(InvalidText, 3, read_chart, "width 3\na 2 3:2\na 1 2:3")

    def test_not_balanced(self):
        self.wrong(InvalidText, 2, read_chart, "width 3\na 0 3:2\n")
        self.wrong(InvalidText, 3, read_chart, "width 3\na 0 3:3\na 0 3:2\n")
        self.wrong(InvalidText, 3, read_chart, "width 3\na 0 3:3\na 0 3:2")
        # A line that can stand nowhere comes first.
        self.wrong(InvalidText, 2, read_chart, "width 3\na 0 3:2\n?\n")

    def test_spoiled_texts(self):
        rng = random.Random(155)
        indexes = set()
        for chart in drawn_charts(156, 200, 6, 6):
            text = write_chart(chart)
            at = rng.randrange(len(text))
            sign = rng.choice("0123: a\n")
            spoiled = rng.choice((text[:at] + text[at + 1:], text[:at] + sign + text[at:], text[:at]))
            try:
                again = read_chart(spoiled)
            except InvalidText as error:
                lines = spoiled.split("\n")
                self.assertLess(error.value, len(lines) + (lines[-1] != ""))
                indexes.add(error.value)
            else:
                self.assertEqual(write_chart(again), spoiled)
        self.assertGreater(len(indexes), 5)


class NamesTest(unittest.TestCase):
    def test_by_name_and_unchanged(self):
        self.assertEqual(write_cloth(cloth=SMALL), SMALL_TEXT)
        self.assertEqual(read_cloth(text=SMALL_TEXT), SMALL)
        self.assertEqual(write_chart(chart=SOME), SOME_TEXT)
        self.assertEqual(read_chart(text=SOME_TEXT), SOME)
        one = read_cloth(SMALL_TEXT)
        one.loops.append(7)
        self.assertEqual(one, read_cloth(SMALL_TEXT))


if __name__ == "__main__":
    unittest.main()
