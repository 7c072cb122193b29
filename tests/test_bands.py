"""Promises [2], [3], [15], [16], [17], [20], [29]: what tears can be behind a stretch."""

import random
import unittest

from runsdown.bands import least_needed, longest_behind, tears_behind
from runsdown.charts import Chart
from runsdown.errors import InvalidPlace, InvalidWidth
from runsdown.maps import ends_at, left_end, needed, right_end, turns
from tests.cases import Case
from tests.models import drawn_charts, steady_charts
from tests.test_tears import BAND, LATE, LEAN, SLOW, SLOWER, SOME, STAR
from tests.values import NO_INTEGERS

FAR = 10 ** 20
STILL = Chart(2, [("a", 0, ((1, 1), (1, 1)))])


def charts(seed, many):
    return [LEAN, STAR, SOME, BAND, LATE, SLOW, SLOWER, STILL] + list(drawn_charts(seed, many)) + list(steady_charts(seed, many))


def down(chart, row, number, rows, end):
    """Where an end comes by so many rows, row by row."""
    for _ in range(rows):
        number, row = end(chart, row, number), (row - 1) % len(chart)
    return number


def behind_by_words(chart, row, left, right, rows):
    """What tears_behind tells, by trying all near numbers."""
    above = (row + rows) % len(chart)
    count = max(chart.counts)
    # An end moves by less than two repeats in a row, up or down.
    reach = 2 * count * (rows + 1)
    around = left * chart.counts[above + 1] // chart.counts[row + 1]
    numbers = range(around - reach, around + reach + 2 * (right - left) + count)
    froms = [number for number in numbers if down(chart, above, number, rows, left_end) == left]
    tos = [number for number in numbers if down(chart, above, number, rows, right_end) == right]
    for found in (froms, tos):
        assert not found or found == list(range(found[0], found[-1] + 1))
    return ((froms[0], froms[-1]), (tos[0], tos[-1])) if froms and tos else None


class TearsBehindTest(unittest.TestCase):
    def test_example(self):
        self.assertEqual(tears_behind(STAR, 0, 1, 2, 1), ((-1, 0), (1, 2)))

    def test_ordinary_chart(self):
        # The lean row draws 0 and 1 through 0, 2 through 1 and 2.
        self.assertEqual(tears_behind(LEAN, 0, 0, 0, 1), ((0, 0), (1, 1)))
        self.assertEqual(tears_behind(LEAN, 0, 1, 2, 1), ((1, 2), (2, 3)))
        self.assertEqual(tears_behind(LEAN, 0, 0, 2, 1), ((0, 0), (2, 3)))
        self.assertIsNone(tears_behind(LEAN, 0, 0, 1, 1))
        self.assertIsNone(tears_behind(LEAN, 0, 2, 2, 1))
        # A right end goes from 4 to 3, from 3 to 2, and stays there.
        self.assertEqual(tears_behind(LEAN, 0, 0, 2, 10 ** 29), ((0, 0), (2, 4)))
        self.assertIsNone(tears_behind(LEAN, 0, 0, 0, 2))
        # Star: the left end of a run is odd, the right one even.
        for row, left, right in ((0, 0, 2), (0, 1, 1), (0, 2, 5)):
            self.assertIsNone(tears_behind(STAR, row, left, right, 1))

    def test_no_rows(self):
        for chart in charts(101, 20):
            for row in range(len(chart)):
                for left, right in ((0, 0), (-3, 4), (FAR, FAR + 1), (-FAR, FAR)):
                    self.assertEqual(tears_behind(chart, row, left, right, 0), ((left, left), (right, right)))

    def test_against_all_near_numbers(self):
        kinds = {True: 0, False: 0}
        for chart in charts(102, 40):
            for row in range(len(chart)):
                count = chart.counts[row + 1]
                for left, right in ((0, 0), (0, count - 1), (1, 1), (-1, 2), (count, 2 * count)):
                    for rows in (1, 2, 3):
                        told = tears_behind(chart, row, left, right, rows)
                        self.assertEqual(told, behind_by_words(chart, row, left, right, rows))
                        kinds[told is None] += 1
        self.assertGreater(min(kinds.values()), 300)

    def test_what_is_told_runs_just_to_the_stretch(self):
        rng = random.Random(103)
        found = 0
        for chart in charts(103, 80):
            for _ in range(20):
                row, rows = rng.randrange(len(chart)), rng.choice((1, 4, 9, 40, 10 ** 22, 10 ** 29))
                above = (row + rows) % len(chart)
                start = rng.randrange(-FAR, FAR)
                stop = start + rng.choice((10, 100, FAR, 10 ** 30))
                stretch = ends_at(chart, above, start, stop, rows)
                if stretch is None:
                    continue
                (one, two), (three, four) = tears_behind(chart, row, *stretch, rows)
                self.assertTrue(one <= start <= two and three <= stop <= four)
                for left in (one, two):
                    for right in (three, four):
                        if left <= right:
                            self.assertEqual(ends_at(chart, above, left, right, rows), stretch)
                # One loop more or less at an end, and it is another stretch.
                for left, right in ((one - 1, three), (two + 1, four), (one, three - 1), (two, four + 1)):
                    self.assertNotEqual(ends_at(chart, above, left, right, rows), stretch)
                found += 1
        self.assertGreater(found, 500)


class LongestBehindTest(unittest.TestCase):
    def test_ordinary_charts(self):
        self.assertIsNone(longest_behind(STILL, 0, 0, 9))
        self.assertIsNone(longest_behind(LEAN, 0, 0, 2))
        self.assertEqual(longest_behind(LEAN, 0, 0, 0), 1)
        self.assertEqual(longest_behind(LEAN, 0, 2, 2), 0)
        self.assertIsNone(longest_behind(STAR, 0, 1, 2))
        self.assertEqual(longest_behind(STAR, 0, 0, 2), 0)

    def test_ways_that_meet_late(self):
        self.assertEqual(longest_behind(SLOW, 0, 1, 1), 19)
        self.assertEqual(longest_behind(SLOWER, 0, 6, 6), 41)

    def test_against_many_rows(self):
        kinds = set()
        for chart in charts(104, 80):
            for row in range(len(chart)):
                count = chart.counts[row + 1]
                for left, right in ((0, 0), (0, count - 1), (1, 1), (-1, 2), (1, FAR), (-FAR, FAR + 3)):
                    told = longest_behind(chart, row, left, right)
                    kinds.add(told)
                    if told is None:
                        for rows in list(range(1, 60, 7)) + [200, 10 ** 29]:
                            self.assertIsNotNone(tears_behind(chart, row, left, right, rows))
                    else:
                        for rows in range(told + 1):
                            self.assertIsNotNone(tears_behind(chart, row, left, right, rows))
                        for rows in (told + 1, told + 2, told + 9, 10 ** 29):
                            self.assertIsNone(tears_behind(chart, row, left, right, rows))
        self.assertLessEqual({None, 0, 1, 2, 3, 4, 5, 6, 7, 8, 9, 10}, kinds)


class LeastNeededTest(unittest.TestCase):
    def test_ordinary_charts(self):
        self.assertEqual(least_needed(STAR, 0, 0, 0), (2, 1))
        self.assertEqual(least_needed(LEAN, 0, 0, 0), (2, 1))
        self.assertEqual(least_needed(LEAN, 0, 1, 1), (1, 1))
        # 1 and 2 are drawn together into 2, one row up.
        self.assertEqual(least_needed(LEAN, 0, 1, 2), (1, 1))
        self.assertEqual(least_needed(STILL, 0, 3, 12), (10, 1))
        self.assertEqual(least_needed(STAR, 0, 0, 10 ** 20), (10 ** 20 + 2, 1))

    def test_least_widths_that_come_late(self):
        self.assertEqual(least_needed(Chart(6, [("a", 5, SLOW.rows[0][2])] + SLOW.rows[1:]), 3, 2, 5)[1], 17)
        self.assertEqual(least_needed(SLOWER, 0, 7, 10)[1], 36)

    def check(self, chart, row, left, right, most):
        widths = []
        for rows in range(1, most + 1):
            low, high = needed(chart, row, left, right, rows)
            widths.append(high - low + 1)
        best = min(widths)
        self.assertEqual(least_needed(chart, row, left, right), (best, widths.index(best) + 1))
        return widths.index(best) + 1

    def test_against_many_rows(self):
        late = set()
        for chart in charts(105, 25):
            for row in range(len(chart)):
                count = chart.counts[row + 1]
                for stretch in ((0, 0), (1, 1), (count - 1, count), (1, 3 * count), (0, FAR), (-FAR, FAR + 1)):
                    late.add(self.check(chart, row, *stretch, 15 * len(chart) + 20))
        self.assertLessEqual({1, 2, 3, 4, 5, 6, 20}, late)

    def test_far_rows_need_no_less(self):
        for chart in charts(106, 60):
            self.assertEqual(len(turns(chart)), 2)
            for row in range(len(chart)):
                for stretch in ((0, 0), (2, 5), (0, FAR)):
                    width, _ = least_needed(chart, row, *stretch)
                    for rows in (10 ** 3, 10 ** 3 + 1, 10 ** 29):
                        low, high = needed(chart, row, *stretch, rows)
                        self.assertGreaterEqual(high - low + 1, width)


class ErrorsTest(Case):
    def test_row(self):
        for wrong in NO_INTEGERS + [-1, 3, 10 ** 39, -10 ** 39]:
            self.wrong(InvalidPlace, wrong, tears_behind, SOME, wrong, 0, 1, 0)
            self.wrong(InvalidPlace, wrong, tears_behind, SOME, wrong, 0, 1, None)
            self.wrong(InvalidPlace, wrong, longest_behind, SOME, wrong, 0, 1)
            self.wrong(InvalidPlace, wrong, least_needed, SOME, wrong, 0, 1)

    def test_rows(self):
        for wrong in NO_INTEGERS + [-1, -10 ** 39]:
            self.wrong(InvalidWidth, wrong, tears_behind, SOME, 2, 0, 1, wrong)
        self.assertEqual(tears_behind(SOME, 2, 0, 1, 0), ((0, 0), (1, 1)))

    def test_by_name(self):
        self.assertEqual(tears_behind(rows=1, right=2, left=1, row=0, chart=STAR), ((-1, 0), (1, 2)))
        self.assertEqual(longest_behind(right=0, left=0, row=0, chart=LEAN), 1)
        self.assertEqual(least_needed(right=0, left=0, row=0, chart=STAR), (2, 1))


if __name__ == "__main__":
    unittest.main()
