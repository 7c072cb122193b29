"""Promises [2], [3], [10], [15], [16], [20], [28]: how far the runs of tears go."""

import random
import unittest

from runsdown.charts import Chart, cloth_at, loop_at
from runsdown.errors import InvalidPlace, InvalidWidth
from runsdown.maps import below, ends_at, turns
from runsdown.runs import run
from runsdown.tears import (
    depth, greatest_depth, held_width, last_loops, least_width, loops_run, worst_place)
from tests.cases import Case
from tests.models import drawn_charts, places_of, steady_charts
from tests.values import BELOW_ONE, NO_INTEGERS

LEAN = Chart(3, [("a", 0, ((1, 2), (2, 1)))])
STAR = Chart(2, [("a", 1, ((2, 2),))])
SOME = Chart(3, [
    ("a", 2, ((1, 2), (2, 1))),
    ("b", 0, ((0, 1), (3, 3), (0, 1))),
    ("cord", 4, ((2, 1), (2, 1), (1, 1))),
])
# Both turns are 1/2; the tears of its places end up to unlike widths.
BAND = Chart(4, [("a", 1, ((1, 2), (1, 1), (2, 1))), ("a", 1, ((1, 1), (1, 1), (1, 1), (1, 1)))])
# Left ends turn by 1/3, right ones by 1/4: a great width ends late.
LATE = Chart(6, [("a", 0, ((1, 1), (1, 1), (1, 2), (2, 1), (1, 1))), ("a", 2, ((1, 1),) * 6)])
# Runs go round before they end, one loop each time, in charts of 4 and 6 rows.
SLOW = Chart(6, [("a", 1, ((1, 2), (2, 1), (1, 1), (1, 1), (1, 1)))] + [("a", 0, ((1, 1),) * 6)] * 3)
SLOWER = Chart(8, [("a", 7, ((1, 1),) * 5 + ((2, 1), (1, 2)))] + [("a", 0, ((1, 1),) * 8)] * 5)


def charts(seed, many):
    return [LEAN, STAR, SOME, BAND, LATE, SLOW, SLOWER] + list(drawn_charts(seed, many)) + list(steady_charts(seed, many))


def run_down(chart, row, cell, width):
    """The stretches that run below a tear, row by row, and whether the run goes on for ever."""
    left, right, found, seen = cell, cell + width - 1, [], set()
    while (row, left % chart.counts[row + 1], right - left) not in seen:
        seen.add((row, left % chart.counts[row + 1], right - left))
        told = below(chart, row, left, right)
        if told is None:
            return found, False
        found.append(told)
        row, (left, right) = (row - 1) % len(chart), told
    return found, True


def depth_by_rows(chart, row, cell, width):
    found, endless = run_down(chart, row, cell, width)
    return None if endless else len(found)


class DepthTest(unittest.TestCase):
    def test_example(self):
        self.assertEqual(depth(STAR, 0, 0, 10 ** 20), 50000000000000000000)
        self.assertEqual(held_width(LEAN, 0, 2), 0)

    def test_ordinary_chart(self):
        self.assertEqual([depth(LEAN, 0, 0, width) for width in range(1, 6)], [0, 1, None, None, None])
        self.assertEqual([depth(LEAN, 0, 1, width) for width in range(1, 4)], [0, None, None])
        self.assertEqual([depth(LEAN, 0, 2, width) for width in range(1, 4)], [None, None, None])
        self.assertEqual([depth(STAR, 0, 0, width) for width in range(1, 8)], [0, 1, 1, 2, 2, 3, 3])
        self.assertEqual([depth(STAR, 0, 1, width) for width in range(1, 8)], [0, 0, 1, 1, 2, 2, 3])
        # Row 2 draws 0 through 4 and 5 of row 1, which are drawn through none;
        # 1 through 6 and 7, and 2 through 8: row 1 draws 6, 7 and 8 together.
        self.assertEqual([depth(SOME, 2, 0, width) for width in (1, 2, 3, 4)], [1, 1, 4, 4])
        # Row 1 draws 1 to 3 through 0 to 2 of row 0, these run through 2 to 4
        # of row 2, and these through 8 to 12 of row 1: with 8, 6 and 7 stand.
        self.assertEqual([depth(SOME, 1, 1, width) for width in (1, 2, 3, 4)], [0, 0, 3, 3])

    def test_row_by_row(self):
        ended = endless = 0
        for chart in charts(71, 40):
            for row, cell in places_of(chart):
                for width in list(range(1, 9)) + [15, 24, 40]:
                    told = depth_by_rows(chart, row, cell, width)
                    self.assertEqual(depth(chart, row, cell, width), told)
                    ended, endless = ended + (told is not None), endless + (told is None)
        self.assertGreater(min(ended, endless), 1000)

    def check_cloth(self, chart, m, n):
        cloth, high, laid = cloth_at(chart, m, n), len(chart), m * chart.width
        top = n * high - 1
        for rows in range(top + 1):
            time, row = divmod(top - rows, high)
            for cell in range(chart.counts[row + 1]):
                for width in range(1, (m - 1) * chart.counts[row + 1] + 1):
                    tear = [loop_at(chart, m, n, time, row, cell + at) for at in range(width)]
                    # Of each row below, whether it has a loop that has run.
                    ran = [loop for loop in run(cloth, tear) if loop not in tear]
                    firsts = [0] + [
                        loop_at(chart, m, n, *divmod(at, high), 0) for at in range(time * high + row + 1)]
                    reached = [index for index, first in enumerate(firsts) if any(
                        first <= loop < (firsts[index + 1] if index + 1 < len(firsts) else 0) for loop in ran)]
                    goes = len(firsts) - 1 - min(reached) if reached else 0
                    told = depth(chart, row, cell, width)
                    if told is None or told >= len(firsts) - 1:
                        self.assertEqual(goes, len(firsts) - 1)
                        self.assertTrue(any(loop < laid for loop in ran))
                    else:
                        self.assertEqual(goes, told)

    def test_in_cloths(self):
        for chart in [LEAN, STAR, BAND] + list(drawn_charts(72, 12, 4, 2)) + list(steady_charts(72, 25, 5, 2)):
            self.check_cloth(chart, 3, 3)
            self.check_cloth(chart, 2, 4)

    def test_great_widths(self):
        for repeats in (1, 2, 10, 10 ** 20, 10 ** 29):
            self.assertEqual(depth(STAR, 0, 0, 2 * repeats), repeats)
            self.assertEqual(depth(STAR, 0, 0, 2 * repeats + 1), repeats)
            self.assertEqual(depth(STAR, 0, 1, 2 * repeats), repeats - 1)
            self.assertIsNone(depth(LEAN, 0, 0, 2 + repeats))
            # Six rounds of left ends are two repeats, twelve of right ends three.
            self.assertEqual(depth(LATE, 0, 0, 6 * repeats + 6) - depth(LATE, 0, 0, 6 * repeats), 24)

    def test_ends_that_come_late(self):
        self.assertEqual([depth(SLOW, 3, 3, width) for width in (5, 6)], [19, None])
        self.assertEqual([depth(SLOWER, 5, 6, width) for width in (7, 8)], [41, None])
        self.assertEqual([held_width(SLOW, 3, 3), held_width(SLOWER, 5, 6)], [5, 7])

    def test_great_widths_by_the_rows_below(self):
        # Loops run in the last one of so many rows, and in no further one.
        rng = random.Random(73)
        for chart in charts(73, 60):
            for row, cell in places_of(chart):
                width = rng.choice((1, 10 ** 9, 10 ** 20, 10 ** 29)) + rng.randrange(10 ** 6)
                told = depth(chart, row, cell, width)
                if told is None:
                    self.assertIsNotNone(ends_at(chart, row, cell, cell + width - 1, 10 ** 35))
                else:
                    self.assertIsNotNone(ends_at(chart, row, cell, cell + width - 1, told))
                    self.assertIsNone(ends_at(chart, row, cell, cell + width - 1, told + 1))

    def test_never_less_for_a_wider_tear(self):
        for chart in charts(74, 10):
            for row, cell in places_of(chart):
                told = [depth(chart, row, cell, width) for width in range(1, 30)]
                ends = [value for value in told if value is not None]
                self.assertEqual(told, sorted(ends) + [None] * (len(told) - len(ends)))


class HeldWidthTest(unittest.TestCase):
    def test_ordinary_charts(self):
        self.assertEqual([held_width(LEAN, 0, cell) for cell in range(3)], [2, 1, 0])
        self.assertEqual([held_width(STAR, 0, cell) for cell in range(2)], [None, None])
        self.assertEqual(held_width(Chart(1, [("a", 0, ((1, 1),))]), 0, 0), 0)

    def test_against_depths(self):
        kinds = set()
        for chart in charts(75, 30):
            for row, cell in places_of(chart):
                told = held_width(chart, row, cell)
                kinds.add(told)
                if told is None:
                    for width in (1, 2, 3, 5, 8, 13, 30, 10 ** 29):
                        self.assertIsNotNone(depth(chart, row, cell, width))
                else:
                    self.assertIsNone(depth_by_rows(chart, row, cell, told + 1))
                    self.assertTrue(told == 0 or depth_by_rows(chart, row, cell, told) is not None)
        self.assertLessEqual({None, 0, 1, 2, 3}, kinds)

    def test_all_end_just_if_the_turns_are_unlike(self):
        for chart in charts(76, 60):
            left, right = turns(chart)
            for row, cell in places_of(chart):
                self.assertEqual(held_width(chart, row, cell) is None, left != right)


class LastLoopsTest(unittest.TestCase):
    def test_ordinary_charts(self):
        self.assertEqual(last_loops(STAR, 0, 0, 10), (5, 9, 10))
        self.assertEqual(last_loops(STAR, 0, 0, 10 ** 29), (5 * 10 ** 28, 10 ** 29 - 1, 10 ** 29))
        self.assertIsNone(last_loops(STAR, 0, 0, 1))
        self.assertEqual(last_loops(LEAN, 0, 0, 2), (1, 0, 0))
        self.assertIsNone(last_loops(LEAN, 0, 0, 3))
        self.assertEqual(last_loops(SOME, 1, 1, 3), (3, 8, 12))

    def test_row_by_row(self):
        for chart in charts(77, 40):
            for row, cell in places_of(chart):
                for width in list(range(1, 8)) + [20]:
                    found, endless = run_down(chart, row, cell, width)
                    told = last_loops(chart, row, cell, width)
                    if endless or not found:
                        self.assertIsNone(told)
                    else:
                        self.assertEqual(told, (len(found), *found[-1]))

    def test_great_widths(self):
        for chart in charts(78, 40):
            for row, cell in places_of(chart):
                width = 10 ** 24 + 7 * cell
                told, rows = last_loops(chart, row, cell, width), depth(chart, row, cell, width)
                if not rows:
                    self.assertIsNone(told)
                else:
                    self.assertEqual(told, (rows, *ends_at(chart, row, cell, cell + width - 1, rows)))


class LoopsRunTest(unittest.TestCase):
    def test_ordinary_charts(self):
        # Four, three, two and one pair of loops, each in its row.
        self.assertEqual([loops_run(STAR, 0, 0, 8, rows) for rows in range(7)], [0, 8, 14, 18, 20, 20, 20])
        self.assertEqual([loops_run(LEAN, 0, 0, 3, rows) for rows in (0, 1, 10, 10 ** 29)], [0, 3, 30, 3 * 10 ** 29])
        self.assertEqual([loops_run(SOME, 1, 1, 3, rows) for rows in range(5)], [0, 3, 6, 11, 11])

    def test_row_by_row(self):
        for chart in charts(79, 20):
            for row, cell in places_of(chart):
                for width in (1, 3, 8):
                    found, endless = run_down(chart, row, cell, width)
                    sums = [0]
                    for left, right in found:
                        sums.append(sums[-1] + right - left + 1)
                    if not endless:
                        sums += [sums[-1]] * 8
                    for rows, many in list(enumerate(sums))[:25]:
                        self.assertEqual(loops_run(chart, row, cell, width, rows), many)
                    if not endless:
                        self.assertEqual(loops_run(chart, row, cell, width, 10 ** 29), sums[-1])

    def test_great_rows_and_widths(self):
        for many in (10 ** 5, 10 ** 20, 10 ** 25):
            # Pairs: many of them in the first row, one less in each next one.
            self.assertEqual(loops_run(STAR, 0, 0, 2 * many, 10 ** 29), many * (many + 1))
            half = many // 2
            self.assertEqual(loops_run(STAR, 0, 0, 2 * many, half), many * (many + 1) - half * (half + 1))
            self.assertEqual(loops_run(LEAN, 0, 0, 3 * many, many), 3 * many * many)

    def test_great_rows_part_by_part(self):
        rng = random.Random(80)
        for chart in charts(80, 40):
            for row, cell in places_of(chart):
                width = 10 ** 25 + rng.randrange(10 ** 20)
                one, other = rng.choice(((10 ** 24, 7), (3, 10 ** 25), (10 ** 22, 10 ** 24), (150, 90)))
                there = ends_at(chart, row, cell, cell + width - 1, one)
                told = loops_run(chart, row, cell, width, one + other)
                if there is None:
                    self.assertEqual(told, loops_run(chart, row, cell, width, one))
                    continue
                under = (row - one) % len(chart)
                repeat, start = divmod(there[0], chart.counts[under + 1])
                rest = loops_run(chart, under, start, there[1] - there[0] + 1, other)
                self.assertEqual(told, loops_run(chart, row, cell, width, one) + rest)


class LeastWidthTest(unittest.TestCase):
    def test_ordinary_charts(self):
        self.assertEqual([least_width(STAR, 0, 0, rows) for rows in range(5)], [1, 2, 4, 6, 8])
        self.assertEqual([least_width(STAR, 0, 1, rows) for rows in range(5)], [1, 3, 5, 7, 9])
        # No tear of depth 2: the next one runs for ever.
        self.assertEqual([least_width(LEAN, 0, 0, rows) for rows in (0, 1, 2, 3, 10 ** 29)], [1, 2, 3, 3, 3])
        self.assertEqual([least_width(LEAN, 0, 2, rows) for rows in (0, 1, 9)], [1, 1, 1])

    def test_no_rows(self):
        for chart in charts(81, 30):
            for row, cell in places_of(chart):
                self.assertEqual(least_width(chart, row, cell, 0), 1)

    def test_against_depths(self):
        for chart in charts(82, 20):
            for row, cell in places_of(chart):
                depths = [depth_by_rows(chart, row, cell, width) for width in range(1, 40)]
                for rows in list(range(9)) + [12, 17, 30]:
                    fits = [at + 1 for at, value in enumerate(depths) if value is None or value >= rows]
                    if fits:
                        self.assertEqual(least_width(chart, row, cell, rows), fits[0])

    def test_great_rows(self):
        for chart in charts(83, 25):
            for row, cell in places_of(chart):
                for rows in (10 ** 4, 10 ** 24, 10 ** 25 + 3):
                    width = least_width(chart, row, cell, rows)
                    deep = depth(chart, row, cell, width)
                    self.assertTrue(deep is None or deep >= rows)
                    if width > 1:
                        deep = depth(chart, row, cell, width - 1)
                        self.assertTrue(deep is not None and deep < rows)
                    held = held_width(chart, row, cell)
                    if held is not None:
                        self.assertEqual(width, held + 1)


class WorstTest(unittest.TestCase):
    def test_ordinary_charts(self):
        self.assertEqual((greatest_depth(STAR, 9), worst_place(STAR, 9)), (4, (0, 0)))
        self.assertEqual((greatest_depth(LEAN, 1), worst_place(LEAN, 1)), (None, (0, 2)))
        self.assertEqual((greatest_depth(LEAN, 2), worst_place(LEAN, 2)), (None, (0, 1)))
        self.assertEqual((greatest_depth(LEAN, 3), worst_place(LEAN, 3)), (None, (0, 0)))
        self.assertEqual((greatest_depth(SOME, 1), worst_place(SOME, 1)), (2, (0, 2)))

    def test_against_all_places(self):
        firsts = set()
        for chart in charts(84, 40):
            for width in (1, 2, 3, 4, 6, 9, 10 ** 24):
                told = {place: depth(chart, *place, width) for place in places_of(chart)}
                if None in told.values():
                    most = None
                else:
                    most = max(told.values())
                self.assertEqual(greatest_depth(chart, width), most)
                first = [place for place in sorted(told) if told[place] == most][0]
                self.assertEqual(worst_place(chart, width), first)
                firsts.add((first[0] > 0, most is None))
        self.assertEqual(len(firsts), 4)


class ErrorsTest(Case):
    # Each with the arguments behind the place.
    PLACE = ((depth, (1,)), (held_width, ()), (last_loops, (1,)), (loops_run, (1, 0)), (least_width, (0,)))
    WIDE = ((depth, ()), (last_loops, ()), (loops_run, (0,)))

    def test_place(self):
        for call, rest in self.PLACE:
            for wrong in NO_INTEGERS + [-1, 3, 10 ** 39, -10 ** 39]:
                self.wrong(InvalidPlace, (wrong, 0), call, SOME, wrong, 0, *rest)
                # What follows may be wrong, too: the place comes first.
                self.wrong(InvalidPlace, (wrong, None), call, SOME, wrong, None, *[None for _ in rest])
            for row, count in enumerate((3, 5, 3)):
                for wrong in NO_INTEGERS + [-1, count, 10 ** 39, -10 ** 39]:
                    self.wrong(InvalidPlace, (row, wrong), call, SOME, row, wrong, *rest)
                call(SOME, row, count - 1, *rest)

    def test_width(self):
        for wrong in NO_INTEGERS + BELOW_ONE:
            for call, rest in self.WIDE:
                self.wrong(InvalidWidth, wrong, call, SOME, 2, 2, wrong, *rest)
                self.wrong(InvalidWidth, wrong, call, SOME, 2, 2, wrong, *["a" for _ in rest])
                self.assertEqual(depth(SOME, 2, 2, 1), 1)
            self.wrong(InvalidWidth, wrong, greatest_depth, SOME, wrong)
            self.wrong(InvalidWidth, wrong, worst_place, SOME, wrong)
        self.assertEqual(greatest_depth(SOME, 1), 2)

    def test_rows(self):
        for wrong in NO_INTEGERS + [-1, -2, -10 ** 39]:
            self.wrong(InvalidWidth, wrong, loops_run, SOME, 2, 2, 1, wrong)
            self.wrong(InvalidWidth, wrong, least_width, SOME, 2, 2, wrong)
        self.assertEqual((loops_run(SOME, 2, 2, 1, 0), least_width(SOME, 2, 2, 0)), (0, 1))

    def test_by_name(self):
        self.assertEqual(depth(width=8, cell=0, row=0, chart=STAR), 4)
        self.assertEqual(held_width(cell=1, row=0, chart=LEAN), 1)
        self.assertEqual(last_loops(width=10, cell=0, row=0, chart=STAR), (5, 9, 10))
        self.assertEqual(loops_run(rows=2, width=8, cell=0, row=0, chart=STAR), 14)
        self.assertEqual(least_width(rows=2, cell=0, row=0, chart=STAR), 4)
        self.assertEqual(greatest_depth(width=9, chart=STAR), 4)
        self.assertEqual(worst_place(width=9, chart=STAR), (0, 0))


if __name__ == "__main__":
    unittest.main()
