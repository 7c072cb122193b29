"""Promises [2], [3], [10], [15], [16], [17], [20], [27]: where the ends of a run go."""

import math
import random
import unittest

from runsdown.charts import Chart, cloth_at, loop_at
from runsdown.errors import InvalidPlace, InvalidWidth
from runsdown.maps import below, ends_at, first_child, last_child, left_end, needed, right_end, turns
from runsdown.runs import run
from tests.cases import Case
from tests.models import drawn_charts, worked
from tests.values import NO_INTEGERS

LEAN = Chart(3, [("a", 0, ((1, 2), (2, 1)))])
STAR = Chart(2, [("a", 1, ((2, 2),))])
SOME = Chart(3, [
    ("a", 2, ((1, 2), (2, 1))),
    ("b", 0, ((0, 1), (3, 3), (0, 1))),
    ("cord", 4, ((2, 1), (2, 1), (1, 1))),
])
FAR = 10 ** 24


def charts(seed, many):
    return [LEAN, STAR, SOME] + list(drawn_charts(seed, many))


def first_by_words(chart, row, number):
    """A of [15]: what the first stitch takes that draws nothing left of number."""
    repeat = number // chart.counts[row + 1]
    right = [take for take, draw in worked(chart, row, repeat - 2, repeat + 2) if take and draw[0] >= number]
    return right[0][0]


def last_by_words(chart, row, number):
    """B of [15]: what the last stitch takes that draws nothing right of number."""
    repeat = number // chart.counts[row + 1]
    left = [take for take, draw in worked(chart, row, repeat - 2, repeat + 2) if take and draw[-1] <= number]
    return left[-1][-1]


def children_by_words(chart, row, number):
    """All children, in the row above, of a loop of a row."""
    above = (row + 1) % len(chart)
    repeat = number // chart.counts[above]
    return [child for take, draw in worked(chart, above, repeat - 3, repeat + 3) if number in take for child in draw]


def kin_below(chart, row):
    """The children, in a row, of many loops of the row below it."""
    kin = {}
    for take, draw in worked(chart, row, -6, 9):
        for number in take:
            kin[number] = draw
    return kin


def down(chart, row, stretch, most):
    """The stretches 0 to most rows below, row by row, None where there is none."""
    found = [stretch]
    for step in range(most):
        found.append(found[-1] and below(chart, (row - step) % len(chart), *found[-1]))
    return found


def up(chart, row, stretch, most):
    """The stretches that must be torn 0 to most rows above, row by row."""
    found = [stretch]
    for step in range(most):
        at, (left, right) = (row + step) % len(chart), found[-1]
        found.append((first_child(chart, at, left), last_child(chart, at, right)))
    return found


class EndsTest(unittest.TestCase):
    def test_example(self):
        self.assertEqual(
            [turns(LEAN), turns(STAR), below(STAR, 0, 0, 9), ends_at(STAR, 0, 0, 9, 3), needed(STAR, 0, 0, 0, 2)],
            [((0, 1), (0, 1)), ((1, 1), (0, 1)), (1, 10), (5, 10), (-4, -1)])

    def test_ordinary_chart(self):
        # Row 1 draws 0 through none, 1 to 3 through 0 to 2, 4 through none.
        self.assertEqual([left_end(SOME, 1, number) for number in range(-4, 7)], [-3, 0, 0, 0, 0, 0, 3, 3, 3, 3, 3])
        self.assertEqual([right_end(SOME, 1, number) for number in range(-3, 9)], [-4] + [-1] * 5 + [2] * 5 + [5])
        self.assertEqual([below(SOME, 1, 1, right) for right in range(1, 9)], [None, None] + [(0, 2)] * 5 + [(0, 5)])
        self.assertEqual([below(SOME, 1, left, 8) for left in range(8)], [(0, 5)] * 2 + [(3, 5)] * 5 + [None])
        # Row 2 draws 0 through 4 and 5, 1 through 6 and 7, 2 through 8.
        self.assertEqual([below(SOME, 2, number, number) for number in range(3)], [(4, 5), (6, 7), (8, 8)])
        # Row 0 draws 0 and 1 through 2, 2 through 3 and 4.
        self.assertEqual(
            [below(SOME, 0, left, right) for left, right in ((0, 0), (0, 1), (0, 2), (1, 2), (2, 4), (1, 1))],
            [None, (2, 2), (2, 4), (3, 4), (3, 5), None])

    def test_ends_by_the_words(self):
        for chart in charts(41, 120):
            for row in range(len(chart)):
                count = chart.counts[row + 1]
                for number in list(range(-2 * count - 1, 2 * count + 2)) + [FAR, -FAR, FAR + 1, -FAR - 5]:
                    self.assertEqual(left_end(chart, row, number), first_by_words(chart, row, number))
                    self.assertEqual(right_end(chart, row, number), last_by_words(chart, row, number))

    def test_ends_never_fall_and_go_on_by_repeats(self):
        for chart in charts(42, 60):
            for row in range(len(chart)):
                ahead, count = chart.counts[row:row + 2]
                for number in range(-count, count):
                    for end in (left_end, right_end):
                        self.assertLessEqual(end(chart, row, number), end(chart, row, number + 1))
                        far = end(chart, row, number + FAR * count)
                        self.assertEqual(far, end(chart, row, number) + FAR * ahead)
                    self.assertLess(right_end(chart, row, number), left_end(chart, row, number + 1))

    def test_below_against_all_children(self):
        for chart in charts(43, 60):
            for row in range(len(chart)):
                count, kin = chart.counts[row + 1], kin_below(chart, row)
                for left in range(-count, count):
                    for right in list(range(left, left + count + 2)) + [left + 3 * count]:
                        ran = [number for number in kin if left <= kin[number][0] and kin[number][-1] <= right]
                        told = below(chart, row, left, right)
                        self.assertEqual(told, (ran[0], ran[-1]) if ran else None)
                        self.assertTrue(not ran or ran == list(range(ran[0], ran[-1] + 1)))

    def test_below_far_off(self):
        for chart in charts(44, 40):
            for row in range(len(chart)):
                ahead, count = chart.counts[row:row + 2]
                for left, right in ((0, 0), (1, 3), (-2, 2 * count), (0, 7)):
                    told = below(chart, row, left, right)
                    for far in (FAR, -FAR):
                        moved = None if told is None else (told[0] + far * ahead, told[1] + far * ahead)
                        self.assertEqual(below(chart, row, left + far * count, right + far * count), moved)
                    wide = below(chart, row, left, right + FAR * count)
                    self.assertEqual(wide, (left_end(chart, row, left), right_end(chart, row, right) + FAR * ahead))

    def test_below_row_0_is_the_last_row(self):
        # The row below row 0 has the loops of row 2, by their numbers; two rows below is row 1.
        self.assertEqual(ends_at(SOME, 0, 0, 2, 1), (2, 4))
        self.assertEqual(ends_at(SOME, 0, 0, 2, 2), below(SOME, 2, 2, 4))
        self.assertEqual(ends_at(SOME, 0, 0, 2, 3), below(SOME, 1, *below(SOME, 2, 2, 4)))

    def test_ends_at_row_by_row(self):
        for chart in charts(45, 60):
            for row in range(len(chart)):
                count = chart.counts[row + 1]
                for left, right in ((0, 0), (0, 1), (-1, count), (2, 3 * count), (-FAR, -FAR + 5 * count), (-7, 40)):
                    told = [ends_at(chart, row, left, right, rows) for rows in range(20)]
                    self.assertEqual(told, down(chart, row, (left, right), 19))

    def test_ends_at_many_rows(self):
        rng = random.Random(46)
        for chart in charts(46, 60):
            for row in range(len(chart)):
                count = chart.counts[row + 1]
                for _ in range(4):
                    left = rng.randrange(-FAR, FAR)
                    right = left + rng.choice((count, 9 * count, 1000 * count, FAR, 9 * FAR * count))
                    one, other = rng.choice(((FAR, 7), (FAR // 3, FAR), (5, FAR + 1), (400, 200)))
                    there = ends_at(chart, row, left, right, one)
                    if there is None:
                        self.assertIsNone(ends_at(chart, row, left, right, one + other))
                    else:
                        under = (row - one) % len(chart)
                        self.assertEqual(
                            ends_at(chart, row, left, right, one + other), ends_at(chart, under, *there, other))
                told = down(chart, row, (-3, 4 * count), 151)
                for rows in (150, 151):
                    self.assertEqual(ends_at(chart, row, -3, 4 * count, rows), told[rows])

    def test_star_by_sums(self):
        # The left end moves by a repeat in each row, but the right one stays.
        for rows in (1, 2, 10, 10 ** 20, 10 ** 29):
            self.assertEqual(ends_at(STAR, 0, 0, 2 * rows, rows), (2 * rows - 1, 2 * rows))
            self.assertEqual(ends_at(STAR, 0, 0, 2 * rows - 1, rows), (2 * rows - 1, 2 * rows))
            self.assertEqual(ends_at(STAR, 0, 2, 2 * rows + 2, rows), (2 * rows + 1, 2 * rows + 2))
            self.assertIsNone(ends_at(STAR, 0, 0, 2 * rows - 2, rows))
            self.assertIsNone(ends_at(STAR, 0, 0, 2 * rows, rows + 1))
            self.assertIsNone(ends_at(STAR, 0, 0, 2 * rows, 10 * rows))
            self.assertEqual(ends_at(LEAN, 0, 0, 3 * rows, rows), (0, 3 * rows - 1))

    def test_runs_of_tears_in_cloths(self):
        # What the cloth itself says, for the tears that leave at least a repeat.
        for chart in drawn_charts(47, 60, 5, 3):
            m, n, high = 3, 3, len(chart)
            cloth = cloth_at(chart, m, n)
            for row in range(high):
                for width in range(1, (m - 1) * chart.counts[row + 1] + 1):
                    tear = [loop_at(chart, m, n, n - 1, row, number) for number in range(1, 1 + width)]
                    ran = run(cloth, tear)
                    found = []
                    for rows in range((n - 1) * high + row + 1):
                        time, under = divmod((n - 1) * high + row - rows, high)
                        left, right = ends_at(chart, row, 1, width, rows) or (1, 0)
                        found += [loop_at(chart, m, n, time, under, number) for number in range(left, right + 1)]
                    laid = m * chart.width
                    self.assertEqual(sorted(found), [loop for loop in ran if loop >= laid])


class NeededTest(unittest.TestCase):
    def test_ordinary_chart(self):
        # Above row 2 is row 0: it draws 0 and 1 through 2, 2 through 3 and 4.
        numbers = range(-3, 6)
        self.assertEqual([first_child(SOME, 2, number) for number in numbers], [-4, -4, -3, -1, -1, 0, 2, 2, 3])
        self.assertEqual([last_child(SOME, 2, number) for number in numbers], [-4, -4, -2, -1, -1, 1, 2, 2, 4])
        # Above row 0 is row 1, with stitches that draw from no loop at both ends.
        self.assertEqual([first_child(SOME, 0, number) for number in range(-1, 4)], [-4, 1, 1, 1, 6])
        self.assertEqual([last_child(SOME, 0, number) for number in range(-1, 4)], [-2, 3, 3, 3, 8])
        self.assertEqual(needed(SOME, 2, 2, 3, 1), (0, 2))
        self.assertEqual(needed(SOME, 2, 2, 3, 2), (1, 3))
        self.assertEqual(needed(SOME, 2, 2, 3, 0), (2, 3))

    def test_children_by_the_words(self):
        for chart in charts(51, 120):
            for row in range(len(chart)):
                count = chart.counts[row + 1]
                for number in list(range(-2 * count - 1, 2 * count + 2)) + [FAR, -FAR, FAR + 1, -FAR - 5]:
                    children = children_by_words(chart, row, number)
                    self.assertEqual(first_child(chart, row, number), children[0])
                    self.assertEqual(last_child(chart, row, number), children[-1])

    def test_needed_row_by_row(self):
        for chart in charts(52, 60):
            for row in range(len(chart)):
                count = chart.counts[row + 1]
                for stretch in ((0, 0), (0, 1), (-1, count), (2, 3 * count), (-FAR, -FAR + 5 * count), (-7, 40)):
                    told = [needed(chart, row, *stretch, rows) for rows in range(20)]
                    self.assertEqual(told, up(chart, row, stretch, 19))

    def test_needed_many_rows(self):
        rng = random.Random(53)
        for chart in charts(53, 60):
            for row in range(len(chart)):
                count = chart.counts[row + 1]
                for _ in range(4):
                    left = rng.randrange(-FAR, FAR)
                    stretch = left, left + rng.choice((0, 1, count, 1000 * count, FAR))
                    one, other = rng.choice(((FAR, 7), (FAR // 3, FAR), (5, FAR + 1), (400, 200)))
                    there, above = needed(chart, row, *stretch, one), (row + one) % len(chart)
                    self.assertEqual(needed(chart, row, *stretch, one + other), needed(chart, above, *there, other))
                told = up(chart, row, (-3, 5), 151)
                for rows in (150, 151):
                    self.assertEqual(needed(chart, row, -3, 5, rows), told[rows])

    def test_star_by_sums(self):
        for rows in (1, 2, 10, 10 ** 20, 10 ** 29):
            self.assertEqual(needed(STAR, 0, 0, 0, rows), (-2 * rows, -1))
            self.assertEqual(needed(STAR, 0, 1, 2, rows), (2 - 2 * rows, 1))
            self.assertEqual(needed(LEAN, 0, 0, 0, rows), (0, 1 if rows == 1 else 2))

    def test_needed_is_just_enough(self):
        # All of a stretch runs by a tear just if this goes at least over what is needed.
        for chart in charts(54, 40):
            high = len(chart)
            for row in range(high):
                for left, right in ((0, 0), (0, 1), (1, 4)):
                    for rows in range(1, 2 * high + 2):
                        low, last = needed(chart, row, left, right, rows)
                        above = (row + rows) % high
                        for one, other in ((low, last), (low - 3, last + 2)):
                            told = ends_at(chart, above, one, other, rows)
                            self.assertTrue(told is not None and told[0] <= left and right <= told[1])
                        short = ((low + 1, last), (low, last - 1), (low + 1, last + 50), (low - 50, last - 1))
                        for one, other in short:
                            told = ends_at(chart, above, one, other, rows) if one <= other else None
                            self.assertFalse(told is not None and told[0] <= left and right <= told[1])


class TurnsTest(unittest.TestCase):
    def by_words(self, chart, row, end):
        """The one fraction to which the moved distance comes near, in lowest terms."""
        count, high = chart.counts[row + 1], len(chart)

        def once(number):
            for step in range(high):
                number = end(chart, (row - step) % high, number)
            return number

        number = 0
        for _ in range(20):
            number = once(number)
        for times in range(1, count + 1):
            later = number
            for _ in range(times):
                later = once(later)
            if (later - number) % count == 0:
                return (later - number) // count, times
        raise AssertionError("no circle")

    def test_by_the_words(self):
        kinds = set()
        for chart in charts(61, 400):
            told = turns(chart)
            for row in range(len(chart)):
                self.assertEqual(told, (self.by_words(chart, row, left_end), self.by_words(chart, row, right_end)))
            for repeats, times in told:
                self.assertGreaterEqual(times, 1)
                self.assertEqual(math.gcd(repeats, times), 1)
                kinds.add(min(repeats, 1))
                kinds.add(("times", min(times, 3)))
            (left, one), (right, other) = told
            self.assertGreaterEqual(left * other, right * one)
        self.assertEqual(kinds, {0, 1, ("times", 1), ("times", 2), ("times", 3)})

    def test_moved_distance_by_times(self):
        times = 10 ** 25
        for chart in charts(62, 100):
            count = chart.counts[1]
            for row in (0, len(chart) - 1):
                low, high = 0, 10 ** 40
                count = chart.counts[row + 1]
                told = ends_at(chart, row, low, high, times * len(chart))
                for end, start, (repeats, rounds) in zip(told, (low, high), turns(chart)):
                    self.assertLess(abs((end - start) * rounds - repeats * times * count), 3 * count * rounds)

    def test_no_turn(self):
        for chart in (LEAN, Chart(1, [("a", 0, ((1, 1),))]), Chart(2, [("a", 0, ((1, 1), (1, 1)))])):
            self.assertEqual(turns(chart), ((0, 1), (0, 1)))

    def test_whole_and_parted_turns(self):
        # Each row moves all ends by its offset.
        for width in range(1, 9):
            for offset in range(width):
                part = math.gcd(offset, width)
                one = Chart(width, [("a", offset, ((1, 1),) * width)])
                self.assertEqual(turns(one), ((offset // part, width // part),) * 2)
                self.assertEqual(turns(one.taller(width)), ((offset, 1),) * 2)
                self.assertEqual(turns(one.wider(2)), turns(Chart(2 * width, [("a", offset, ((1, 1),) * 2 * width)])))

    def test_never_below_0(self):
        # As offsets are none below 0, no end of a repeat goes to the left, however the stitches lie.
        for stitches in (((0, 1), (3, 1), (0, 1)), ((0, 2), (3, 1)), ((3, 1), (0, 2)), ((0, 1), (1, 1), (2, 1))):
            for offset in range(3):
                for repeats, _ in turns(Chart(3, [("a", offset, stitches)])):
                    self.assertGreaterEqual(repeats, 0)


class ErrorsTest(Case):
    ONE = (left_end, right_end, first_child, last_child)
    ROWS = (ends_at, needed)

    def test_row(self):
        for wrong in NO_INTEGERS + [-1, 3, 10 ** 39, -10 ** 39]:
            for call in self.ONE:
                self.wrong(InvalidPlace, wrong, call, SOME, wrong, 0)
            self.wrong(InvalidPlace, wrong, below, SOME, wrong, 0, 1)
            for call in self.ROWS:
                self.wrong(InvalidPlace, wrong, call, SOME, wrong, 0, 1, 0)
                self.wrong(InvalidPlace, wrong, call, SOME, wrong, 0, 1, None)
        for row in range(3):
            for call in self.ONE:
                call(SOME, row, 0)

    def test_rows(self):
        for call in self.ROWS:
            for wrong in NO_INTEGERS + [-1, -10 ** 39]:
                self.wrong(InvalidWidth, wrong, call, SOME, 2, 0, 1, wrong)
            self.assertEqual(call(SOME, 2, 0, 1, 0), (0, 1))

    def test_by_name(self):
        self.assertEqual(left_end(number=1, row=1, chart=SOME), 0)
        self.assertEqual(right_end(number=3, row=1, chart=SOME), 2)
        self.assertEqual(below(right=3, left=1, row=1, chart=SOME), (0, 2))
        self.assertEqual(ends_at(rows=3, right=9, left=0, row=0, chart=STAR), (5, 10))
        self.assertEqual(first_child(number=2, row=2, chart=SOME), 0)
        self.assertEqual(last_child(number=2, row=2, chart=SOME), 1)
        self.assertEqual(needed(rows=2, right=0, left=0, row=0, chart=STAR), (-4, -1))
        self.assertEqual(turns(chart=STAR), ((1, 1), (0, 1)))
        self.assertEqual(SOME, Chart(3, SOME.rows))

    def test_kinds_of_values(self):
        for told in (below(SOME, 1, 1, 3), ends_at(SOME, 1, 1, 3, 1), needed(SOME, 1, 1, 3, 1), turns(SOME)):
            self.assertIs(type(told), tuple)
            self.assertEqual(len(told), 2)
        for told in turns(SOME):
            self.assertIs(type(told), tuple)


if __name__ == "__main__":
    unittest.main()
