"""Promises [2], [3], [16], [20], [28]: what tells the depths of all widths at a place."""

import itertools
import unittest

from runsdown.charts import Chart
from runsdown.errors import InvalidPlace, Unfit
from runsdown.maps import turns
from runsdown.tears import depth, depth_form, held_width, same_depths, unlike_depth
from tests.cases import Case
from tests.models import drawn_charts, places_of, steady_charts
from tests.test_tears import BAND, LATE, LEAN, SLOW, SOME, STAR, depth_by_rows
from tests.values import NO_INTEGERS

# One loop that stays where it is, and one that goes round.
STILL, ROUND = Chart(2, [("a", 0, ((1, 1), (1, 1)))]), Chart(2, [("a", 1, ((1, 1), (1, 1)))])


def charts(seed, many):
    return [LEAN, STAR, SOME, BAND, LATE, SLOW] + list(
        drawn_charts(seed, many, 6, 4)) + list(steady_charts(seed, many, 6, 4))


def told(form, width):
    """The depth that a form tells, by the words of [28]."""
    depths, every, more = form
    if width <= len(depths):
        return depths[width - 1]
    return told(form, width - every) + more if every > 0 else None


def fits(depths, every, many):
    """Whether the depths of all widths behind many grow by the same for every more."""
    steps = {depths[at] - depths[at - every] for at in range(many, len(depths))}
    return len(steps) == 1


class DepthFormTest(unittest.TestCase):
    def test_example(self):
        self.assertEqual(depth_form(STAR, 0, 0), ([0, 1], 2, 1))
        self.assertEqual(depth_form(LEAN, 0, 0), ([0, 1], 0, 0))

    def test_ordinary_charts(self):
        self.assertEqual(depth_form(STAR, 0, 1), ([0, 0], 2, 1))
        self.assertEqual(depth_form(LEAN, 0, 1), ([0], 0, 0))
        self.assertEqual(depth_form(LEAN, 0, 2), ([], 0, 0))
        self.assertEqual(depth_form(STILL, 0, 1), ([], 0, 0))
        # Every width goes by one repeat in 12 rounds of 2 rows.
        depths, every, more = depth_form(LATE, 0, 0)
        self.assertEqual((every, more), (6, 24))
        self.assertEqual(depths, [depth_by_rows(LATE, 0, 0, width) for width in range(1, len(depths) + 1)])

    def test_against_many_widths(self):
        endless = growing = 0
        for chart in charts(91, 60):
            for place in places_of(chart):
                form = depth_form(chart, *place)
                for width in range(1, len(form[0]) + 2 * form[1] + 20):
                    self.assertEqual(told(form, width), depth_by_rows(chart, *place, width))
                endless, growing = endless + (form[1] == 0), growing + (form[1] > 0)
        self.assertGreater(min(endless, growing), 100)

    def test_great_widths(self):
        for chart in charts(92, 20):
            for place in places_of(chart):
                depths, every, more = depth_form(chart, *place)
                for width in (10 ** 20, 10 ** 29 + 7):
                    if every == 0:
                        self.assertIsNone(depth(chart, *place, width))
                        continue
                    times = (width - len(depths) + every - 1) // every
                    self.assertEqual(depth(chart, *place, width), depths[width - times * every - 1] + times * more)

    def test_widths_that_run_for_ever(self):
        # The depths of all lesser widths; both other numbers are 0.
        for chart in charts(93, 60):
            left, right = turns(chart)
            for place in places_of(chart):
                depths, every, more = depth_form(chart, *place)
                held = held_width(chart, *place)
                self.assertEqual(held is None, every > 0)
                if left == right:
                    self.assertEqual((len(depths), every, more), (held, 0, 0))
                else:
                    self.assertGreaterEqual(len(depths), every)
                    self.assertGreater(more, 0)

    def test_least_every_then_fewest_depths(self):
        everies = set()
        for chart in charts(94, 80):
            if turns(chart)[0] == turns(chart)[1]:
                continue
            for place in places_of(chart):
                form = depth_form(chart, *place)
                depths, every, more = form
                everies.add(every)
                far = [told(form, width) for width in range(1, len(depths) + 3 * every + 1)]
                for less in range(1, every):
                    self.assertFalse(fits(far, less, len(depths) + less))
                self.assertTrue(fits(far, every, len(depths)))
                if len(depths) > every:
                    self.assertFalse(fits(far, every, len(depths) - 1))
        self.assertLessEqual({2, 3, 4, 5}, everies)

    def test_wider_and_taller_charts_have_the_same_depths(self):
        for chart in charts(95, 25):
            for row, cell in places_of(chart):
                form, wide = depth_form(chart, row, cell), chart.wider(2)
                self.assertEqual(depth_form(wide, row, cell), form)
                self.assertEqual(depth_form(wide, row, cell + chart.counts[row + 1]), form)
                self.assertEqual(depth_form(chart.taller(2), row + len(chart), cell), form)


class UnlikeTest(unittest.TestCase):
    def check(self, one, other):
        """Hold both functions against the depths of many widths one by one."""
        found = None
        for width in range(1, 60):
            unlike = [place for place in places_of(one) if depth(one, *place, width) != depth(other, *place, width)]
            if unlike:
                found = (width, *unlike[0])
                break
        self.assertEqual(unlike_depth(one, other), found)
        self.assertIs(same_depths(one, other), found is None)
        return found

    def test_a_chart_and_itself(self):
        for chart in charts(96, 25):
            self.assertIs(same_depths(chart, Chart(chart.width, chart.rows)), True)
            self.assertIsNone(unlike_depth(chart, chart))

    def test_ordinary_charts(self):
        self.assertIs(same_depths(STILL, ROUND), True)
        self.assertIsNone(unlike_depth(STILL, ROUND))
        self.assertEqual(self.check(STAR, STILL), (1, 0, 0))
        self.assertEqual(self.check(LEAN, Chart(3, [("b", 0, ((1, 2), (2, 1)))])), None)
        self.assertIsNone(self.check(LEAN, Chart(3, [("a", 1, ((1, 2), (2, 1)))])))
        self.assertEqual(self.check(LEAN, Chart(3, [("a", 2, ((1, 2), (2, 1)))])), (2, 0, 0))
        # The mirror of the lean one.
        self.assertEqual(self.check(LEAN, Chart(3, [("a", 0, ((2, 1), (1, 2)))])), (1, 0, 0))

    def test_unlike_offsets(self):
        kinds = set()
        for chart in list(drawn_charts(97, 40, 5, 3)) + list(steady_charts(97, 80, 5, 3)):
            for row, (thread, offset, stitches) in enumerate(chart.rows):
                moved = chart.rows
                moved[row] = (thread, (offset + 1) % chart.counts[row], stitches)
                found = self.check(chart, Chart(chart.width, moved))
                kinds.add(found and (found[0] > 1, found[1] > 0))
        self.assertEqual(kinds, {None, (False, False), (False, True), (True, False), (True, True)})

    def test_unlike_stitches(self):
        for chart in list(drawn_charts(98, 25, 5, 3)) + list(steady_charts(98, 50, 5, 3)):
            thread, offset, stitches = chart.rows[-1]
            for other in itertools.islice(itertools.permutations(stitches), 1, 5):
                self.check(chart, Chart(chart.width, chart.rows[:-1] + [("z", offset, other)]))

    def test_unlike_late(self):
        one = Chart(3, [("a", 2, ((2, 2), (1, 1))), ("a", 0, ((3, 3),))])
        self.assertEqual(self.check(one, Chart(3, [one.rows[0], ("a", 1, ((3, 3),))])), (6, 1, 0))
        one = Chart(5, [("a", 1, ((1, 1), (3, 3), (1, 1))), ("a", 2, ((1, 1),) * 5)])
        self.assertEqual(self.check(one, Chart(5, [("a", 0, one.rows[0][2]), one.rows[1]])), (5, 0, 1))
        self.check(LATE, Chart(6, [LATE.rows[0], ("a", 3, ((1, 1),) * 6)]))
        self.check(LATE, Chart(6, [("a", 0, ((1, 1), (1, 2), (1, 1), (2, 1), (1, 1))), LATE.rows[1]]))


    def test_unlike_everies(self):
        # Forms that go by unlike numbers of loops, told apart behind the fewer depths.
        pairs = (
            (Chart(4, [("a", 2, ((1, 2), (3, 2)))]), Chart(4, [("a", 3, ((2, 2), (2, 2)))])),
            (Chart(5, [("a", 4, ((1, 1), (1, 1), (2, 1), (1, 1))), ("a", 0, ((1, 1), (1, 1), (1, 2), (1, 1)))]),
             Chart(5, [("a", 4, ((1, 1), (2, 1), (1, 1), (1, 1))), ("a", 3, ((2, 2), (1, 2), (1, 1)))])),
            (Chart(4, [("a", 0, ((3, 3), (1, 1))), ("a", 2, ((1, 1), (2, 1), (0, 1), (1, 1)))]),
             Chart(4, [("a", 1, ((3, 2), (1, 2))), ("a", 3, ((2, 1), (1, 1), (1, 2)))])),
        )
        self.assertEqual(depth_form(pairs[1][0], 0, 3), ([1], 1, 2))
        self.assertEqual(depth_form(pairs[1][1], 0, 3), ([1, 3, 9], 2, 6))
        for one, other in pairs:
            self.check(one, other)
            self.check(other, one)


class ErrorsTest(Case):
    def test_place(self):
        for wrong in NO_INTEGERS + [-1, 3, 10 ** 39, -10 ** 39]:
            self.wrong(InvalidPlace, (wrong, 0), depth_form, SOME, wrong, 0)
        for row, count in enumerate((3, 5, 3)):
            for wrong in NO_INTEGERS + [-1, count, 10 ** 39, -10 ** 39]:
                self.wrong(InvalidPlace, (row, wrong), depth_form, SOME, row, wrong)
            self.assertEqual(len(depth_form(SOME, row, count - 1)), 3)

    def test_counts_that_are_not_equal(self):
        wide = Chart(3, [("a", 0, ((3, 2),)), ("a", 0, ((2, 3),))])
        for one, other in (
                (LEAN, STAR), (LEAN, SOME), (LEAN, LEAN.taller(2)), (STAR, STAR.wider(2)), (wide, LEAN.taller(2)),
                (wide, Chart(3, [("a", 0, ((3, 1),)), ("a", 0, ((1, 3),))]))):
            for call in (same_depths, unlike_depth):
                self.wrong(Unfit, 0, call, one, other)
                self.wrong(Unfit, 0, call, other, one)
        self.assertIs(same_depths(wide, wide), True)

    def test_by_name_and_twice(self):
        self.assertEqual(depth_form(cell=0, row=0, chart=STAR), ([0, 1], 2, 1))
        self.assertEqual(unlike_depth(other=STILL, one=STAR), (1, 0, 0))
        self.assertIs(same_depths(other=STILL, one=STAR), False)
        # Returned lists are new.
        one = depth_form(STAR, 0, 0)
        one[0].append(7)
        self.assertEqual(depth_form(STAR, 0, 0), ([0, 1], 2, 1))
        self.assertIs(type(one), tuple)


if __name__ == "__main__":
    unittest.main()
