"""Promises [2], [3], [7], [8], [9], [20], [26]: charts and their cloths."""

import unittest

from runsdown.charts import Chart, cloth_at, loop_at
from runsdown.cloths import Cloth
from runsdown.errors import InvalidChart, InvalidPlace, InvalidSize, RunError, Unbalanced
from tests.models import drawn_charts
from tests.values import BELOW_ONE, NO_INTEGERS, NO_LISTS, NO_THREADS, NO_TUPLES, THREADS

ROWS = [
    ("a", 2, ((1, 2), (2, 1))),
    ("b", 0, ((0, 1), (3, 3), (0, 1))),
    ("cord", 4, ((2, 1), (2, 1), (1, 1))),
]
COUNTS = [3, 3, 5, 3]
LEAN = Chart(3, [("a", 0, ((1, 2), (2, 1)))])
STAR = Chart(2, [("a", 1, ((2, 2),))])


def some():
    return Chart(3, list(ROWS))


def labels(chart, m, n):
    """All loops of a cloth as (time, row, number), in their sequence, by [9]; laid ones have the row -1."""
    found = [(0, -1, number) for number in range(m * chart.width)]
    for time in range(n):
        for row, count in enumerate(chart.counts[1:]):
            found.extend([(time, row, number) for number in range(m * count)])
    return found


def cloth_by_words(chart, m, n):
    """The cloth by the words of [8] and [9], loop by loop."""
    told = labels(chart, m, n)
    place = {label: loop for loop, label in enumerate(told)}
    parents = {loop: set() for loop in range(len(told))}
    for time in range(n):
        for row, (_, offset, stitches) in enumerate(chart.rows):
            ahead, behind = chart.counts[row], chart.counts[row + 1]
            under = (time, row - 1) if row > 0 or time == 0 else (time - 1, len(chart) - 1)
            for repeat in range(m):
                take, draw = repeat * ahead + offset, repeat * behind
                for taken, drawn in stitches:
                    through = [place[under + (number % (m * ahead),)] for number in range(take, take + taken)]
                    for number in range(draw, draw + drawn):
                        parents[place[(time, row, number)]].update(through)
                    take, draw = take + taken, draw + drawn
    loops = [(chart.rows[max(row, 0)][0], tuple(sorted(parents[loop]))) for loop, (_, row, _) in enumerate(told)]
    last = (n - 1, len(chart) - 1)
    return loops, [loop for loop, label in enumerate(told) if label[:2] == last]


class ChartTest(unittest.TestCase):
    def test_ordinary_chart(self):
        chart = some()
        self.assertEqual((chart.width, chart.rows, chart.counts, len(chart)), (3, ROWS, COUNTS, 3))

    def test_by_name(self):
        self.assertEqual(Chart(rows=list(ROWS), width=3), some())

    def test_least_chart(self):
        chart = Chart(1, [("a", 0, ((1, 1),))])
        self.assertEqual((chart.width, chart.counts, len(chart)), (1, [1, 1], 1))

    def test_stitches_that_are_right(self):
        for taken in range(4):
            for drawn in range(1, 4):
                if drawn > taken:
                    back = ((1, 1),) * taken + ((2, 1), (drawn - taken, 1))
                else:
                    back = ((1, 1),) * (drawn + 1) + ((1, taken - drawn + 1),)
                rows = [("a", 0, ((taken, drawn), (1, 1), (1, 1))), ("b", 1, back)]
                self.assertEqual(Chart(taken + 2, rows).counts, [taken + 2, drawn + 2, taken + 2])

    def test_told_twice_with_changes_in_between(self):
        rows = list(ROWS)
        chart = Chart(3, rows)
        self.assertEqual(rows, ROWS)
        rows[0] = None
        rows.append(None)
        for tell in (lambda: chart.rows, lambda: chart.counts):
            first = tell()
            kept = list(first)
            self.assertIsNot(tell(), first)
            first.append(9)
            first[0] = "changed"
            self.assertEqual(tell(), kept)
            first.clear()
            self.assertEqual(tell(), kept)
        self.assertEqual(chart, some())
        self.assertEqual((chart.width, len(chart)), (3, 3))

    def test_kinds_of_what_is_told(self):
        chart = some()
        for told in (chart.rows, chart.counts):
            self.assertIs(type(told), list)
        for row in chart.rows:
            self.assertIs(type(row), tuple)
            self.assertIs(type(row[2]), tuple)

    def test_greatest_charts(self):
        for chart in drawn_charts(31, 40, 8, 12):
            again = Chart(chart.width, chart.rows)
            self.assertEqual((again.counts, len(again)), (chart.counts, len(chart)))
            counts = [chart.width] + [sum(drawn for _, drawn in row[2]) for row in chart.rows]
            self.assertEqual(chart.counts, counts)

    def test_equal(self):
        self.assertTrue(some() == some())
        self.assertFalse(some() != some())

    def test_unequal(self):
        others = [
            LEAN, STAR, Chart(3, ROWS + ROWS), Chart(3, [("b",) + ROWS[0][1:]] + ROWS[1:]),
            Chart(3, [("a", 1, ROWS[0][2])] + ROWS[1:]), Chart(3, [("a", 2, ((2, 1), (1, 2)))] + ROWS[1:]),
            Chart(6, [(thread, offset, stitches * 2) for thread, offset, stitches in ROWS]),
        ]
        for other in others:
            self.assertFalse(some() == other)
            self.assertTrue(some() != other)

    def test_beside_values_that_are_no_charts(self):
        for other in (None, True, 3, "", ROWS, (3, ROWS), [], (), RunError(0), Cloth([], [])):
            self.assertFalse(some() == other)
            self.assertFalse(other == some())
            self.assertTrue(some() != other)


class WiderTest(unittest.TestCase):
    def test_wider(self):
        wide = some().wider(2)
        self.assertEqual((wide.width, wide.counts), (6, [6, 6, 10, 6]))
        self.assertEqual(wide.rows, [(thread, offset, stitches * 2) for thread, offset, stitches in ROWS])
        self.assertEqual(some().wider(times=1), some())
        self.assertEqual(some().wider(2).wider(3), some().wider(6))

    def test_wider_has_the_same_cloths(self):
        for chart in drawn_charts(32, 20, 4, 3):
            for times in (1, 2, 3):
                self.assertEqual(cloth_at(chart.wider(times), 2, 2), cloth_at(chart, 2 * times, 2))

    def test_taller(self):
        tall = some().taller(2)
        self.assertEqual((tall.width, tall.rows, len(tall)), (3, ROWS * 2, 6))
        self.assertEqual(tall.counts, [3, 3, 5, 3, 3, 5, 3])
        self.assertEqual(some().taller(times=1), some())
        for chart in drawn_charts(33, 20, 4, 3):
            for times in (1, 2, 3):
                self.assertEqual(cloth_at(chart.taller(times), 2, 2), cloth_at(chart, 2, 2 * times))

    def test_wrong_times(self):
        chart = some()
        for call in (chart.wider, chart.taller):
            for wrong in NO_INTEGERS + BELOW_ONE:
                with self.subTest(wrong=wrong), self.assertRaises(RunError) as caught:
                    call(wrong)
                self.assertIs(type(caught.exception), InvalidSize)
                self.assertIs(caught.exception.value, wrong)
        self.assertEqual(chart, some())

    def test_add(self):
        one, other = some(), LEAN
        both = one + other
        self.assertEqual((both.width, both.rows, both.counts), (3, ROWS + LEAN.rows, [3, 3, 5, 3, 3]))
        self.assertEqual((other + one).rows, LEAN.rows + ROWS)
        self.assertEqual((one, other), (some(), Chart(3, [("a", 0, ((1, 2), (2, 1)))])))
        self.assertEqual(one + one, one.taller(2))

    def test_add_unequal_widths(self):
        for one, other in ((some(), STAR), (STAR, some()), (some(), some().wider(2))):
            with self.assertRaises(RunError) as caught:
                one + other
            self.assertIs(type(caught.exception), InvalidSize)
            self.assertEqual(caught.exception.value, other.width)

    def test_add_other_values(self):
        for other in (None, 1, "a", [], ROWS, (), RunError(0), Cloth([], [])):
            with self.subTest(other=other):
                with self.assertRaises(TypeError):
                    some() + other
                with self.assertRaises(TypeError):
                    other + some()


class WrongChartTest(unittest.TestCase):
    def check(self, error, value, width, rows):
        with self.subTest(width=width, rows=rows):
            with self.assertRaises(RunError) as caught:
                Chart(width, rows)
            self.assertIs(type(caught.exception), error)
            self.assertEqual(caught.exception.value, value)
            self.assertIs(type(caught.exception.value), type(value))

    def check_row(self, wrong):
        """A wrong row of three loops is found as the first, and between others."""
        for ahead in range(3):
            rows = [("a", 0, ((1, 2), (2, 1)))] * ahead + [wrong, ROWS[0], None]
            kept = list(rows)
            self.check(InvalidChart, ahead, 3, rows)
            self.assertEqual(rows, kept)

    def test_width(self):
        for wrong in NO_INTEGERS + BELOW_ONE:
            self.check(InvalidSize, wrong, wrong, list(ROWS))
            self.check(InvalidSize, wrong, wrong, None)

    def test_no_list_or_empty(self):
        for wrong in NO_LISTS + [[], tuple(ROWS)]:
            self.check(InvalidChart, -1, 3, wrong)

    def test_no_row(self):
        right = ((3, 3),)
        for wrong in NO_TUPLES + [(), ("a",), ("a", 0), ("a", 0, right, 0), (0, "a", right), ["a", 0, right]]:
            self.check_row(wrong)

    def test_threads(self):
        for wrong in NO_THREADS:
            self.check_row((wrong, 0, ((3, 3),)))
        for thread in THREADS:
            self.assertEqual(Chart(3, [(thread, 0, ((3, 3),))]).rows[0][0], thread)

    def test_offsets(self):
        for wrong in NO_INTEGERS + [-1, 3, 4, 10 ** 39, -10 ** 39]:
            self.check_row(("a", wrong, ((3, 3),)))
        for offset in range(3):
            self.assertEqual(Chart(3, [("a", offset, ((3, 3),))]).rows[0][1], offset)
        # It is the count ahead of the row itself that tells, not that behind it, nor the width.
        rows = [("a", 0, ((1, 1), (1, 1), (1, 2))), ("a", 3, ((2, 1), (2, 1))), ("a", 1, ((1, 1), (1, 2)))]
        self.assertEqual(Chart(3, rows).counts, [3, 4, 2, 3])
        for index, most in enumerate((2, 3, 1)):
            thread, _, stitches = rows[index]
            self.check(InvalidChart, index, 3, rows[:index] + [(thread, most + 1, stitches)] + rows[index + 1:])
            Chart(3, rows[:index] + [(thread, most, stitches)] + rows[index + 1:])

    def test_stitches_that_are_no_tuple(self):
        for wrong in NO_TUPLES + [[(3, 3)], "chain", ("pass",) * 3, ("chain",) * 3, ("cross", (3, 3))]:
            self.check_row(("a", 0, wrong))

    def test_wrong_stitches(self):
        for wrong in NO_TUPLES + [(), (3,), (3, 3, 3), ((3, 3),), [3, 3], "pass", "cross", "chain", "33"]:
            self.check_row(("a", 0, (wrong, (3, 3))))
            self.check_row(("a", 0, ((3, 3), wrong)))
        for wrong in NO_INTEGERS + [-1, 4, 10 ** 39, -10 ** 39]:
            self.check_row(("a", 0, ((0, wrong), (3, 3))))
            self.check_row(("a", 0, ((wrong, 1), (3, 3))))
            self.check_row(("a", 0, ((3, 3), (wrong, 1))))

    def test_stitches_that_draw_nothing(self):
        self.check_row(("a", 0, ((1, 0), (2, 3))))
        self.check_row(("a", 0, ((0, 0), (3, 3))))
        self.check_row(("a", 0, ((3, 0),)))

    def test_stitches_that_do_not_fit(self):
        for wrong in ((), ((0, 3),), ((2, 3),), ((1, 1), (1, 1)), ((3, 3), (1, 1)), ((2, 1), (2, 2)), ((3, 3),) * 2):
            self.check_row(("a", 0, wrong))
        self.check(InvalidChart, 0, 10 ** 39, list(ROWS))
        # The second row must fit what the first one left, not the width.
        self.check(InvalidChart, 1, 2, [("a", 0, ((2, 3),)), ("a", 0, ((2, 3),))])
        self.check(InvalidChart, 1, 3, [("a", 0, ((3, 2),)), ("a", 0, ((3, 3),))])

    def test_first_wrong_row_is_told(self):
        self.check(InvalidChart, 1, 3, [ROWS[0], ("A", 0, ((3, 3),)), None, ("a", 9, ())])

    def test_unbalanced(self):
        self.check(Unbalanced, 2, 3, [("a", 0, ((3, 2),))])
        self.check(Unbalanced, 5, 3, ROWS[:2])
        self.check(Unbalanced, 1, 3, ROWS + [("a", 0, ((3, 1),))])
        self.check(Unbalanced, 4, 2, [("a", 0, ((1, 3), (1, 3))), ("a", 5, ((3, 2), (3, 2)))])

    def test_wrong_rows_ahead_of_unbalanced(self):
        self.check(InvalidChart, 1, 3, [("a", 0, ((3, 2),)), None])
        self.check(InvalidChart, 2, 3, ROWS[:2] + [("a", 5, ((2, 1), (2, 1), (1, 2)))])
        self.check(Unbalanced, 4, 3, ROWS[:2] + [("a", 4, ((2, 1), (2, 1), (1, 2)))])


class ClothAtTest(unittest.TestCase):
    def check(self, chart, m, n):
        cloth = cloth_at(chart, m, n)
        loops, fast = cloth_by_words(chart, m, n)
        self.assertIs(type(cloth), Cloth)
        self.assertEqual((cloth.loops, cloth.fast), (loops, fast))

    def test_example(self):
        self.assertEqual(len(cloth_at(LEAN, 2, 2)), 18)

    def test_loop_by_loop(self):
        cloth = cloth_at(Chart(2, [("b", 1, ((2, 1), (0, 2))), ("a", 0, ((1, 1), (2, 1)))]), 2, 1)
        self.assertEqual(cloth.loops, [
            ("b", ()), ("b", ()), ("b", ()), ("b", ()),
            ("b", (1, 2)), ("b", ()), ("b", ()), ("b", (0, 3)), ("b", ()), ("b", ()),
            ("a", (4,)), ("a", (5, 6)), ("a", (7,)), ("a", (8, 9)),
        ])
        self.assertEqual(cloth.fast, [10, 11, 12, 13])

    def test_one_repeat_of_one_loop(self):
        cloth = cloth_at(Chart(1, [("a", 0, ((1, 1),))]), 1, 3)
        self.assertEqual((cloth.loops, cloth.fast), ([("a", ()), ("a", (0,)), ("a", (1,)), ("a", (2,))], [3]))

    def test_threads(self):
        # The laid loops have the thread of the first row; each row has its own.
        cloth = cloth_at(some(), 1, 2)
        threads = [thread for thread, _ in cloth.loops]
        self.assertEqual(threads, ["a"] * 6 + ["b"] * 5 + ["cord"] * 3 + ["a"] * 3 + ["b"] * 5 + ["cord"] * 3)

    def test_ordinary_chart(self):
        for m in range(1, 5):
            for n in range(1, 5):
                for chart in (some(), LEAN, STAR):
                    self.check(chart, m, n)

    def test_drawn_charts(self):
        for chart in drawn_charts(34, 200):
            for m, n in ((1, 1), (1, 2), (2, 1), (3, 2)):
                self.check(chart, m, n)

    def test_great_cloths(self):
        self.check(STAR, 20, 9)
        self.check(STAR, 1, 199)
        self.check(STAR, 100, 1)

    def test_by_name_and_twice(self):
        chart = some()
        self.assertEqual(cloth_at(n=2, chart=chart, m=3), cloth_at(chart, 3, 2))
        self.assertEqual(chart, some())


class LoopAtTest(unittest.TestCase):
    def test_against_all_loops(self):
        charts = [some(), LEAN, STAR] + list(drawn_charts(35, 60))
        for chart in charts:
            for m, n in ((1, 1), (2, 3), (3, 2)):
                told = labels(chart, m, n)
                for loop, (time, row, number) in enumerate(told):
                    if row < 0:
                        continue
                    ring = m * chart.counts[row + 1]
                    for far in (0, 1, -1, 7, -10 ** 25, 10 ** 29):
                        self.assertEqual(loop_at(chart, m, n, time, row, number + far * ring), loop)

    def test_ordinary(self):
        self.assertEqual(loop_at(LEAN, 2, 2, 0, 0, 0), 6)
        self.assertEqual(loop_at(LEAN, 2, 2, 1, 0, 5), 17)
        self.assertEqual(loop_at(LEAN, 2, 2, 1, 0, -1), 17)
        self.assertEqual(loop_at(LEAN, 2, 2, 1, 0, 6), 12)
        self.assertEqual(loop_at(number=10 ** 29, row=1, time=1, n=3, m=2, chart=some()), 12 + 22 + 10 ** 29 % 10)

    def test_sizes(self):
        for wrong in NO_INTEGERS + BELOW_ONE:
            for call in (cloth_at, lambda chart, m, n: loop_at(chart, m, n, 0, 0, 0),
                         lambda chart, m, n: loop_at(chart, m, n, None, None, None)):
                for m, n in ((wrong, 1), (1, wrong), (wrong, None), (wrong, wrong)):
                    with self.subTest(m=m, n=n), self.assertRaises(RunError) as caught:
                        call(LEAN, m, n)
                    self.assertIs(type(caught.exception), InvalidSize)
                    self.assertIs(caught.exception.value, wrong)

    def test_places(self):
        wrong = [(value, 0, 0) for value in NO_INTEGERS + [-1, 2, 10 ** 39, -10 ** 39]]
        wrong += [(0, value, 0) for value in NO_INTEGERS + [-1, 3, 10 ** 39, -10 ** 39]]
        wrong += [(0, 0, value) for value in NO_INTEGERS] + [(None, -1, "a"), (2, 3, 0), (1, 3, None)]
        for place in wrong:
            with self.subTest(place=place), self.assertRaises(RunError) as caught:
                loop_at(some(), 1, 2, *place)
            self.assertIs(type(caught.exception), InvalidPlace)
            self.assertIs(type(caught.exception.value), tuple)
            self.assertEqual(len(caught.exception.value), 3)
            for one, other in zip(caught.exception.value, place):
                self.assertIs(one, other)
        self.assertEqual(loop_at(some(), 1, 2, 1, 2, 2), 24)


if __name__ == "__main__":
    unittest.main()
