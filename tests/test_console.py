"""Promises [2], [20], [35]: the console."""

import random
import unittest

from runsdown.cloths import Cloth
from runsdown.console import Console
from runsdown.errors import (
    InvalidLoop, InvalidOrder, InvalidSize, LeftOver, NothingToUndo, RunError, TooFew)
from runsdown.live import LiveCloth
from runsdown.texts import write_cloth
from tests.cases import Case
from tests.test_live import Model, drawn_deed, outcome
from tests.values import BELOW_ONE, NO_INTEGERS


def told(numbers):
    return " ".join(str(number) for number in numbers) or "none"


def words_of(word, arguments):
    """The order of a deed, None for one that no order tells."""
    if word == "row":
        thread, stitches = arguments
        if not stitches:
            return None
        return " ".join([word, thread] + [
            stitch if isinstance(stitch, str) else f"{stitch[0]}:{stitch[1]}" for stitch in stitches])
    if arguments and arguments[0] < 0:
        return None
    return " ".join([word] + [str(one) for one in arguments])


class ConsoleTest(Case):
    def test_ordinary(self):
        console = Console("a", 2)
        orders = [
            ("needle", "0 1"), ("gone", "none"), ("left", "0 1"), ("cloth", "a\na\n=\n"),
            ("row b 1:2 1:1", "2 3 4"), ("needle", "2 3 4"), ("cut 4", "1 4"), ("gone", "1 4"), ("left", "0 2 3"),
            ("cloth", "a\na\nb 0\nb 0\nb 1\n=\n"), ("undo", "cut"), ("gone", "none"), ("pin 0", "none"),
            ("cloth", "a\na\nb 0\nb 0\nb 1\n= 0\n"), ("unpin 0", "none"), ("row cord cross pass chain chain", "5 6"),
            ("needle", "3 6"), ("cloth", "a\na\nb 0\nb 0\nb 1\ncord 2\ncord 4 5\n=\n"), ("bind", "3 6"),
            ("needle", "none"),
            ("bind", "none"), ("undo", "bind"), ("undo", "bind"), ("undo", "row"), ("undo", "unpin"), ("undo", "pin"),
            ("undo", "row"), ("needle", "0 1"), ("row a pass pass", "none"), ("row a 1:0 1:0", "none"),
            ("cloth", "a\na\n= 0 1\n"), ("unpin 1", "1"), ("cut 0", "0"), ("left", "none"), ("cloth", "a\na\n=\n"),
        ]
        for order, text in orders:
            self.assertEqual(console.execute(order), text, order)
            self.assertIs(type(text), str)

    def test_long_sequences_against_a_live_cloth(self):
        rng = random.Random(161)
        for _ in range(40):
            width = rng.randint(1, 5)
            console, live, model = Console("a", width), LiveCloth("a", width), Model("a", width)
            for _ in range(60):
                word, arguments = drawn_deed(rng, model)
                order = words_of(word, arguments)
                if order is None:
                    continue
                outcome(model, word, arguments)
                right = outcome(live, word, arguments)
                if isinstance(right, list):
                    right = told(right)
                self.assertEqual(outcome(console, "execute", (order,)), right)
                self.assertEqual(console.execute("needle"), told(live.needle))
                self.assertEqual(console.execute("gone"), told(live.gone))
                left = [loop for loop in range(len(live.cloth)) if loop not in live.gone]
                self.assertEqual(console.execute("left"), told(left))
                self.assertEqual(console.execute("cloth"), write_cloth(live.cloth))

    def test_each_stitch(self):
        for taken in range(4):
            for drawn in range(4):
                console = Console("a", max(taken, 1))
                order = f"row b {taken}:{drawn}" + (" pass" if taken == 0 else "")
                if (taken, drawn) == (0, 0):
                    self.wrong(InvalidOrder, order, console.execute, order)
                else:
                    first = max(taken, 1)
                    self.assertEqual(console.execute(order), told(range(first, first + drawn)))

    def test_what_is_no_order(self):
        console = Console("a", 2)
        console.execute("pin 0")
        wrongs = [
            "", " ", "\n", "a", "Bind", "BIND", "bind ", " bind", "bind 0", "bind\n", "undo 1", "undo ", "needle 0",
            "gone ", "left 1", "cloth a", "none", "twin", "len", "quit", "kept",
            "cut", "cut ", "cut  1", "cut 1 ", " cut 1", "cut 1 0", "cut a", "cut -1", "cut +1", "cut 01", "cut 00",
            "cut 1000000000", "cut 0000000001", "cut 1.", "cut None", "cut\t1", "cut \u0661", "cut \u00b2", "cut1",
            "pin", "pin 01", "pin 0 0", "pin x", "unpin", "unpin 00", "unpin 0 ", "unpin 1:1",
            "row", "row ", "row b", "row b ", "row 1:1 1:1", "row B 1:1 1:1", "row abcdefghi 1:1 1:1", "row b  1:1 1:1",
            "row b 1:1  1:1", "row b 1:1 1:1 ", " row b 1:1 1:1", "row b 0:0 1:1 1:1", "row b 2:4", "row b 4:1",
            "row b 2:10", "row b 02:1", "row b 2:01", "row b 2", "row b 2:", "row b :1", "row b 2:1:1", "row b 2;1",
            "row b -2:1", "row b Pass pass", "row b pas pass", "row b pass,pass", "row b pass\npass", "row b (2,1)",
            "row b\u00e4 2:1", "row b \u0662:1", "x" * 2000, "row " + "a" * 1996, "cut " + "1" * 1996,
        ]
        for wrong in wrongs + NO_INTEGERS + [0, 1, -1, 10 ** 39, b"bind", ("bind",), ["cut", 0], {}]:
            with self.subTest(order=wrong), self.assertRaises(RunError) as caught:
                console.execute(wrong)
            self.assertIs(type(caught.exception), InvalidOrder)
            self.assertIs(caught.exception.value, wrong)
        self.assertEqual(console.execute("cloth"), "a\na\n= 0\n")
        self.assertEqual(console.execute("needle"), "0 1")
        self.assertEqual(console.execute("undo"), "pin")
        self.wrong(NothingToUndo, 0, console.execute, "undo")

    def test_errors_of_deeds(self):
        console = Console("a", 2)
        self.wrong(NothingToUndo, 0, console.execute, "undo")
        for word in ("cut", "pin", "unpin"):
            self.wrong(InvalidLoop, 2, console.execute, word + " 2")
            self.wrong(InvalidLoop, 999999999, console.execute, word + " 999999999")
        self.wrong(InvalidLoop, 1, console.execute, "unpin 1")
        self.wrong(TooFew, (0, 1), console.execute, "row b 1:1 3:2")
        self.wrong(TooFew, (0, 2), console.execute, "row b 1:1 pass cross")
        self.wrong(LeftOver, (0, 1), console.execute, "row b chain")
        self.assertEqual(console.execute("cut 1"), "1")
        self.wrong(InvalidLoop, 1, console.execute, "cut 1")
        self.wrong(InvalidLoop, 1, console.execute, "pin 1")
        self.assertEqual(console.execute("undo"), "cut")
        self.wrong(NothingToUndo, 0, console.execute, "undo")

    def test_long_orders(self):
        console = Console("a", 120)
        self.assertEqual(console.execute("row b" + " 1:1" * 120), told(range(120, 240)))
        self.assertEqual(console.execute("row b" + " 2:1" * 60), told(range(240, 300)))
        self.assertEqual(console.execute("cut 299"), "118 119 238 239 299")

    def test_width(self):
        for wrong in NO_INTEGERS + BELOW_ONE:
            self.wrong(InvalidSize, wrong, Console, "a", wrong)
        self.assertEqual(Console(width=1, thread="b").execute(order="cloth"), "b\n=\n")

    def test_consoles_go_on_by_themselves(self):
        one, other = Console("a", 2), Console("a", 2)
        one.execute("cut 0")
        self.assertEqual((one.execute("gone"), other.execute("gone")), ("0", "none"))
        self.assertNotEqual(one.execute("cloth"), write_cloth(Cloth([], [])))


if __name__ == "__main__":
    unittest.main()
