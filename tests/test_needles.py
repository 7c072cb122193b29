"""Promises [2], [3], [6], [22]: works and needles."""

import copy
import inspect
import itertools
import unittest

from runsdown.cloths import Cloth
from runsdown.errors import InvalidRow, InvalidSize, LeftOver, RunError, TooFew
from runsdown.needles import needle, work
from tests.values import BELOW_ONE, NO_INTEGERS, NO_LISTS, NO_THREADS, NO_TUPLES, THREADS


def slow_work(width, rows):
    """The words of [6], stitch by stitch on two needles: loops, fast ones, needle."""
    loops, fast, left = [("a", ())] * width, [], list(range(width))
    for index, (thread, stitches) in enumerate(rows):
        right, chained = [], None
        for at, stitch in enumerate(stitches):
            if len(left) < (stitch[0] if isinstance(stitch, tuple) else {"cross": 2}.get(stitch, 1)):
                return TooFew, (index, at)
            if stitch == "pass":
                right, left, chained = right + left[:1], left[1:], None
            elif stitch == "cross":
                left, chained = left[1::-1] + left[2:], None
            elif stitch == "chain":
                through = [left[0]] + [loop for loop in right if loop == chained]
                right, left, chained = [loop for loop in right if loop != chained], left[1:], len(loops)
                right.append(len(loops))
                loops.append((thread, tuple(sorted(through))))
            else:
                through, left, chained = left[:stitch[0]], left[stitch[0]:], None
                right += range(len(loops), len(loops) + stitch[1])
                loops += [(thread, tuple(sorted(through)))] * stitch[1]
                fast += [] if stitch[1] else through
        if left:
            return LeftOver, (index, len(left))
        left = right
    return loops, fast, left


class StitchesTest(unittest.TestCase):
    def check(self, width, stitches, new, on_needle, tied=()):
        """One row from width laid loops; new: the parents of its loops."""
        rows = [("b", stitches)]
        loops = [("a", ())] * width + [("b", parents) for parents in new]
        cloth = work("a", width, rows)
        self.assertEqual(cloth.loops, loops)
        self.assertEqual(cloth.fast, sorted(list(tied) + on_needle))
        self.assertEqual(cloth, Cloth(loops, list(tied) + on_needle))
        self.assertEqual(work("a", width, rows, bound=False).fast, sorted(tied))
        self.assertEqual(needle("a", width, rows), on_needle)

    def test_take_and_draw(self):
        self.check(1, ((1, 1),), [(0,)], [1])
        self.check(1, ((1, 3),), [(0,), (0,), (0,)], [1, 2, 3])
        self.check(3, ((3, 1),), [(0, 1, 2)], [3])
        self.check(3, ((3, 2),), [(0, 1, 2), (0, 1, 2)], [3, 4])
        self.check(3, ((1, 1), (2, 3)), [(0,), (1, 2), (1, 2), (1, 2)], [3, 4, 5, 6])

    def test_lay(self):
        self.check(1, ((0, 2), (1, 1), (0, 1)), [(), (), (0,), ()], [1, 2, 3, 4])
        self.check(1, ("pass", (0, 3)), [(), (), ()], [0, 1, 2, 3])

    def test_tie_off(self):
        self.check(1, ((1, 0),), [], [], [0])
        self.check(3, ((3, 0),), [], [], [0, 1, 2])
        self.check(4, ("pass", (2, 0), (1, 1)), [(3,)], [0, 4], [1, 2])

    def test_pass(self):
        self.check(1, ("pass",), [], [0])
        self.check(3, ("pass", (1, 2), "pass"), [(1,), (1,)], [0, 3, 4, 2])

    def test_cross(self):
        self.check(2, ("cross", (1, 1), (1, 1)), [(1,), (0,)], [2, 3])
        self.check(2, ("cross", "pass", "pass"), [], [1, 0])
        self.check(3, ((1, 1), "cross", (1, 1), "pass"), [(0,), (2,)], [3, 4, 1])
        self.check(3, ("cross", "pass", "cross", "pass", "pass"), [], [1, 2, 0])

    def test_cross_behind_cross(self):
        self.check(2, ("cross", "cross", "pass", "pass"), [], [0, 1])
        self.check(3, ("cross", "cross", "cross", "pass", (2, 1)), [(0, 2)], [1, 3])

    def test_crossed_parents_are_ascending(self):
        self.check(2, ("cross", (2, 2)), [(0, 1), (0, 1)], [2, 3])
        self.check(3, ("cross", "pass", "cross", (2, 1)), [(0, 2)], [1, 3])

    def test_crossed_loops_tied_off(self):
        self.check(3, ("cross", (1, 0), "pass", "pass"), [], [0, 2], [1])
        self.check(3, ("pass", "cross", (2, 0)), [], [0], [1, 2])

    def test_cross_at_the_end(self):
        for stitches, many in ((("pass", "cross"), 2), (("cross",), 3), (("cross", "pass", "cross"), 2)):
            with self.subTest(stitches=stitches), self.assertRaises(LeftOver) as caught:
                work("a", 3, [("b", stitches)])
            self.assertEqual(caught.exception.value, (0, many))
        for stitches, at in ((("pass", "pass", "cross"), 2), (("pass", "pass", "pass", "cross"), 3)):
            with self.subTest(stitches=stitches), self.assertRaises(TooFew) as caught:
                work("a", 3, [("b", stitches)])
            self.assertEqual(caught.exception.value, (0, at))

    def test_chain_alone(self):
        self.check(1, ("chain",), [(0,)], [1])
        self.check(2, ("chain", "pass"), [(0,)], [2, 1])
        self.check(3, ((1, 1), "chain", (1, 1)), [(0,), (1,), (2,)], [3, 4, 5])
        self.check(2, ("pass", "chain"), [(1,)], [0, 2])

    def test_chain_behind_chain(self):
        self.check(2, ("chain", "chain"), [(0,), (1, 2)], [3])
        self.check(3, ("chain", "chain", "chain"), [(0,), (1, 3), (2, 4)], [5])
        self.check(3, ("pass", "chain", "chain"), [(1,), (2, 3)], [0, 4])
        self.check(3, ("chain", "chain", "pass"), [(0,), (1, 3)], [4, 2])
        self.check(4, ((1, 2), "chain", "chain", (1, 1)), [(0,), (0,), (1,), (2, 6), (3,)], [4, 5, 7, 8])

    def test_chain_begins_anew_behind_another_stitch(self):
        self.check(3, ("chain", "pass", "chain"), [(0,), (2,)], [3, 1, 4])
        self.check(2, ("chain", (0, 1), "chain"), [(0,), (), (1,)], [2, 3, 4])
        self.check(3, ("chain", (1, 0), "chain"), [(0,), (2,)], [3, 4], [1])
        self.check(3, ("chain", "cross", "chain", "chain"), [(0,), (2,), (1, 4)], [3, 5])

    def test_chain_begins_anew_in_the_next_row(self):
        rows = [("b", ("chain", "chain")), ("c", ("chain",)), ("d", ("chain",))]
        loops = [("a", ()), ("a", ()), ("b", (0,)), ("b", (1, 2)), ("c", (3,)), ("d", (4,))]
        self.assertEqual(work("a", 2, rows), Cloth(loops, [5]))

    def test_mixed(self):
        stitches = ("cross", (2, 1), "chain", "chain", "cross", (1, 0), "pass", (0, 1), (1, 3))
        new = [(0, 1), (2,), (3, 8), (), (6,), (6,), (6,)]
        self.check(7, stitches, new, [7, 9, 4, 10, 11, 12, 13], [5])


class WorksTest(unittest.TestCase):
    def test_no_rows(self):
        self.assertEqual(work("cord", 3, []), Cloth([("cord", ())] * 3, [0, 1, 2]))
        self.assertEqual(work("cord", 3, [], bound=False), Cloth([("cord", ())] * 3, []))
        self.assertEqual(needle("cord", 3, []), [0, 1, 2])
        self.assertEqual(len(work("a", 1, [])), 1)

    def test_several_rows(self):
        rows = [("b", ((1, 2), "pass")), ("a", ("pass", (2, 1))), ("cord", ((1, 1), (1, 0)))]
        loops = [("a", ()), ("a", ()), ("b", (0,)), ("b", (0,)), ("a", (1, 3)), ("cord", (2,))]
        self.assertEqual(work("a", 2, rows), Cloth(loops, [4, 5]))
        self.assertEqual(work("a", 2, rows, bound=False), Cloth(loops, [4]))
        self.assertEqual(needle("a", 2, rows), [5])

    def test_example_of_the_document(self):
        small = work("a", 2, [("b", ((1, 2), (1, 1)))])
        self.assertEqual(small.loops[2:], [("b", (0,)), ("b", (0,)), ("b", (1,))])
        self.assertEqual(small.fast, [2, 3, 4])

    def test_rows_without_stitches(self):
        off = ("b", ((2, 0),))
        self.assertEqual(work("a", 2, [off, ("b", ()), ("c", ())]), Cloth([("a", ())] * 2, [0, 1]))
        self.assertEqual(needle("a", 2, [off, ("b", ())]), [])
        again = [off, ("b", ()), ("c", ((0, 2),)), ("d", ("pass", "pass"))]
        self.assertEqual(work("a", 2, again).loops[2:], [("c", ()), ("c", ())])
        self.assertEqual(needle("a", 2, again), [2, 3])

    def test_threads_of_rows(self):
        for thread in THREADS:
            self.assertEqual(work(thread, 1, []).threads, [thread])
            self.assertEqual(work("a", 1, [(thread, ((1, 1),))]).loops[1], (thread, (0,)))

    def test_by_name(self):
        rows = [("b", ((1, 1), (1, 0)))]
        cloth = Cloth([("a", ()), ("a", ()), ("b", (0,))], [1, 2])
        self.assertEqual(work(rows=rows, width=2, thread="a"), cloth)
        self.assertEqual(work(bound=False, rows=rows, width=2, thread="a"), cloth.without_fast(2))
        self.assertEqual(work("a", 2, rows, bound=True), cloth)
        self.assertEqual(needle(rows=rows, width=2, thread="a"), [2])

    def test_bound_by_name_only(self):
        with self.assertRaises(TypeError):
            work("a", 2, [], False)
        self.assertNotIn("bound", inspect.signature(needle).parameters)

    def test_arguments_stay_as_they_were(self):
        rows = [("b", ("cross", (2, 1), "chain", "chain")), ("c", ("pass", (1, 0)))]
        kept = copy.deepcopy(rows)
        cloth, held = work("a", 4, rows), needle("a", 4, rows)
        self.assertEqual(rows, kept)
        rows.clear()
        self.assertEqual(cloth, work("a", 4, kept))
        held.append(9)
        self.assertEqual(needle("a", 4, kept), held[:-1])

    def test_works_of_many_rows(self):
        rows = [("b", ((1, 1),) * 30)] * 20
        cloth = work("a", 30, rows)
        self.assertEqual(len(cloth), 630)
        self.assertEqual(needle("a", 30, rows), list(range(600, 630)))
        self.assertEqual(cloth.loops[629], ("b", (599,)))

    def test_against_the_words_of_the_document(self):
        kinds = ["pass", "cross", "chain", (1, 1), (2, 1), (1, 0), (0, 1), (1, 2)]
        below = [("b", ("cross", (1, 1), "pass", "pass"))]
        many = 0
        for length in range(6):
            for stitches in itertools.product(kinds, repeat=length):
                rows = below + [("c", stitches)]
                expected = slow_work(3, rows)
                if len(expected) == 3:
                    many += 1
                    loops, fast, held = expected
                    self.assertEqual(work("a", 3, rows, bound=False), Cloth(loops, fast), stitches)
                    self.assertEqual(needle("a", 3, rows), held, stitches)
                else:
                    with self.assertRaises(expected[0], msg=stitches) as caught:
                        work("a", 3, rows)
                    self.assertEqual(caught.exception.value, expected[1], stitches)
        self.assertGreater(many, 1000)


class WrongSizesTest(unittest.TestCase):
    def test_invalid_size(self):
        for call in (work, needle):
            for wrong in NO_INTEGERS + BELOW_ONE:
                with self.subTest(wrong=wrong), self.assertRaises(InvalidSize) as caught:
                    call("a", wrong, [])
                self.assertIs(caught.exception.value, wrong)

    def test_invalid_size_ahead_of_rows(self):
        for rows in (None, [None], [("b", ())], [("b", ((3, 3),))]):
            with self.subTest(rows=rows), self.assertRaises(InvalidSize):
                work("a", 0, rows)


class WrongRowsTest(unittest.TestCase):
    def check(self, wrong):
        """A wrong row is found as the first, and between others."""
        good = ("b", ((1, 1), (1, 1)))
        with self.subTest(wrong=wrong):
            for call in (work, needle):
                for ahead in (0, 2):
                    rows = [good] * ahead + [wrong, good, None]
                    kept = list(rows)
                    with self.assertRaises(InvalidRow) as caught:
                        call("a", 2, rows)
                    self.assertEqual(caught.exception.value, ahead)
                    self.assertEqual(rows, kept)

    def test_no_list(self):
        for call in (work, needle):
            for wrong in NO_LISTS:
                with self.subTest(wrong=wrong), self.assertRaises(InvalidRow) as caught:
                    call("a", 2, wrong)
                self.assertEqual(caught.exception.value, -1)

    def test_no_tuple(self):
        for wrong in NO_TUPLES + [["b", ((1, 1), (1, 1))]]:
            self.check(wrong)

    def test_wrong_length(self):
        for wrong in ((), ("b",), (((1, 1), (1, 1)),), ("b", 0, ((1, 1), (1, 1))), ("b", (), ())):
            self.check(wrong)

    def test_wrong_threads(self):
        for wrong in NO_THREADS:
            self.check((wrong, ((1, 1), (1, 1))))

    def test_stitches_that_are_no_tuple(self):
        for wrong in NO_TUPLES + [[(1, 1), (1, 1)], "pass", "chain"]:
            self.check(("b", wrong))

    def test_wrong_stitches(self):
        numbers = [
            (0, 0), (4, 1), (1, 4), (-1, 1), (1, -1), (0, -1), (10 ** 39, 1), (1, 10 ** 39), (True, 1),
            (1, True), (False, 1), (1, False), (False, False), (None, 1), (1, "1"), ("1", 1), ((1,), 1),
        ]
        lengths = [(), (1,), (1, 1, 1), ((1, 1),)]
        words = ["", "Pass", "PASS", "pas", "passes", " pass", "chains", "cross ", "1:1", "k", "x" * 200]
        others = [None, True, 0, 1, [], [1, 1], ["pass"], Cloth([], []), RunError(0)]
        for wrong in numbers + lengths + words + others:
            self.check(("b", (wrong,)))
            self.check(("b", ((1, 1), wrong, (1, 1))))

    def test_ahead_of_the_work(self):
        for stitches in ((), ((3, 1),), ((1, 1),)):
            with self.subTest(stitches=stitches), self.assertRaises(InvalidRow) as caught:
                work("a", 2, [("b", stitches), None])
            self.assertEqual(caught.exception.value, 1)


class UnfitRowsTest(unittest.TestCase):
    def check(self, error, value, width, rows):
        with self.subTest(width=width, rows=rows):
            kept = copy.deepcopy(rows)
            for call in (work, needle):
                with self.assertRaises(error) as caught:
                    call("a", width, rows)
                self.assertEqual(caught.exception.value, value)
                self.assertEqual(rows, kept)

    def test_too_few(self):
        self.check(TooFew, (0, 0), 1, [("b", ((2, 1),))])
        self.check(TooFew, (0, 0), 2, [("b", ((3, 0),))])
        self.check(TooFew, (0, 1), 1, [("b", ((1, 1), (1, 1)))])
        self.check(TooFew, (0, 2), 2, [("b", ("pass", "pass", "pass"))])
        self.check(TooFew, (0, 0), 1, [("b", ("cross",))])
        self.check(TooFew, (0, 1), 2, [("b", ("pass", "cross"))])
        self.check(TooFew, (0, 2), 2, [("b", ("chain", "chain", "chain"))])

    def test_loops_of_the_same_row_are_not_worked(self):
        self.check(TooFew, (0, 1), 1, [("b", ((0, 3), (2, 1)))])
        self.check(TooFew, (0, 1), 1, [("b", ((1, 3), "chain"))])
        self.check(TooFew, (0, 1), 1, [("b", ("chain", "pass"))])
        self.check(TooFew, (0, 1), 1, [("b", ("pass", "pass"))])

    def test_left_over(self):
        self.check(LeftOver, (0, 1), 1, [("b", ())])
        self.check(LeftOver, (0, 3), 3, [("b", ((0, 3),))])
        self.check(LeftOver, (0, 2), 4, [("b", ("chain", "chain"))])
        self.check(LeftOver, (0, 1), 3, [("b", ("pass", (1, 0)))])

    def test_in_later_rows(self):
        first = ("b", ((1, 2), (1, 1)))
        self.check(LeftOver, (1, 1), 2, [first, ("b", ("pass", "pass"))])
        self.check(TooFew, (1, 2), 2, [first, ("b", ((1, 1), "pass", (2, 1)))])
        self.check(TooFew, (2, 0), 2, [first, ("c", ((3, 1),)), ("c", ((2, 1),))])
        self.check(LeftOver, (1, 1), 2, [("b", ("chain", "chain")), ("b", ())])
        self.check(TooFew, (1, 1), 2, [("b", ("chain", "chain")), ("b", ("pass", "pass"))])
        self.check(TooFew, (1, 0), 1, [("b", ((1, 0),)), ("b", ("pass",))])

    def test_what_is_due_first(self):
        self.check(LeftOver, (0, 1), 2, [("b", ("pass",)), ("b", ((3, 1),))])
        self.check(TooFew, (0, 1), 2, [("b", ("pass", (2, 1))), ("b", ())])
        self.check(TooFew, (0, 0), 2, [("b", ((3, 1), (3, 1)))])
        self.check(TooFew, (0, 1), 3, [("b", ((1, 1), (3, 1), (1, 1)))])

    def test_great_widths(self):
        self.check(InvalidRow, -1, 10 ** 39, None)
        self.check(InvalidRow, 0, 10 ** 39, [None])
        self.check(LeftOver, (0, 10 ** 39), 10 ** 39, [("b", ())])
        self.check(LeftOver, (0, 10 ** 39 - 3), 10 ** 39, [("b", ((2, 1), "cross", "chain"))])


if __name__ == "__main__":
    unittest.main()
