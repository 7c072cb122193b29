"""Promises [2], [3], [12], [18], [20], [30]: how many cuts free a loop, at every height."""

import itertools
import random
import unittest

from runsdown.charts import Chart, cloth_at, loop_at
from runsdown.cloths import Cloth
from runsdown.cutting import fewest_cuts
from runsdown.errors import InvalidPlace, InvalidWidth
from runsdown.heights import hold, hold_cuts, hold_drops, hold_for_ever, hold_ways
from runsdown.maps import first_child, last_child
from runsdown.runs import run
from tests.cases import Case
from tests.models import drawn_charts, places_of, runner, steady_charts
from tests.test_tears import BAND, LATE, LEAN, SOME, STAR
from tests.values import BELOW_ONE, NO_INTEGERS

SAME = ("a", 0, ((1, 1),) * 8)
# Rows that leave all as it is, and one that does not: what falls, falls late.
TWO = Chart(8, [("a", 2, ((1, 1), (1, 2), (1, 2), (2, 1), (1, 1), (2, 1)))] + [SAME] * 5)
THREE = Chart(8, [("a", 6, ((1, 1), (2, 1), (1, 1), (1, 1), (2, 1), (1, 3)))] + [SAME] * 5)
BOTH = Chart(8, [SAME] * 3 + [("a", 2, ((1, 1), (1, 1), (2, 1), (1, 3), (2, 1), (1, 1)))] + [SAME] * 2)
AT_ONCE = Chart(8, [("a", 5, ((1, 1), (1, 1), (1, 1), (3, 1), (1, 1), (1, 3)))] + [SAME] * 5)
LATE_ONES = [TWO, THREE, BOTH, AT_ONCE]


def charts(seed, many):
    return [LEAN, STAR, SOME, BAND, LATE] + list(drawn_charts(seed, many)) + list(steady_charts(seed, many))


class Above:
    """The cloth of 3 repeats that ends so many rows above a row."""

    def __init__(self, chart, row, rows, repeats=3):
        self.chart, self.row, self.repeats = chart, row, repeats
        self.n = (row + rows) // len(chart) + 1
        full = cloth_at(chart, repeats, self.n)
        first = self.loop(rows, 0)
        stop = self.loop(rows, -1) + 1
        self.cloth = Cloth(full.loops[:stop], list(range(first, stop)))

    def loop(self, above, number):
        time, row = divmod(self.row + above, len(self.chart))
        return loop_at(self.chart, self.repeats, self.n, time, row, number)


def by_trying(cloth, loop):
    """The least number of cuts of later loops by which a loop runs, by trying them all."""
    above = [loop]
    for other, (_, parents) in enumerate(cloth.loops):
        if any(parent in above for parent in parents):
            above.append(other)
    ran = runner(cloth)
    for many in (1, 2):
        if any(loop in ran(cuts) for cuts in itertools.combinations(above[1:], many)):
            return many
    return 3


class HoldTest(unittest.TestCase):
    def test_example(self):
        self.assertEqual([hold(LEAN, 0, 0, 9), hold(LEAN, 0, 1, 9), hold_for_ever(STAR, 0, 0)], [2, 1, 2])

    def test_ordinary_charts(self):
        self.assertEqual([hold(LEAN, 0, cell, 1) for cell in range(3)], [2, 1, 1])
        self.assertEqual([hold(LEAN, 0, cell, 10 ** 29) for cell in range(3)], [2, 1, 1])
        wide = Chart(1, [("a", 0, ((1, 3),)), ("a", 0, ((1, 1),) * 3), ("a", 1, ((3, 1),))])
        self.assertEqual([hold(wide, 2, 0, rows) for rows in (1, 2, 3, 4, 10 ** 29)], [3, 3, 2, 2, 2])
        straight = Chart(1, [("a", 0, ((1, 3),)), ("a", 0, ((1, 1),) * 3), ("a", 0, ((3, 1),))])
        self.assertEqual([hold(straight, 2, 0, rows) for rows in (1, 2, 3, 4, 10 ** 29)], [3, 3, 1, 1, 1])

    def test_by_trying_cuts(self):
        kinds = set()
        for chart in [LEAN, STAR] + list(drawn_charts(111, 15, 5, 3)) + list(steady_charts(111, 15, 5, 3)):
            for row, cell in places_of(chart):
                for rows in (1, 2, 3, 4):
                    above = Above(chart, row, rows)
                    told = hold(chart, row, cell, rows)
                    self.assertEqual(told, by_trying(above.cloth, above.loop(0, cell)))
                    kinds.add((rows, told))
        self.assertEqual(kinds, {(rows, number) for rows in (1, 2, 3, 4) for number in (1, 2, 3)})

    def test_in_cloths(self):
        rng = random.Random(112)
        for chart in charts(112, 60):
            for place in places_of(chart):
                if rng.randrange(4) == 0:
                    rows = rng.choice((1, 2, 3, 4, 5, 6, 7, 8, 12, 20, 31))
                    above = Above(chart, place[0], rows)
                    self.assertEqual(hold(chart, *place, rows), fewest_cuts(above.cloth, above.loop(0, place[1])))

    def test_more_repeats_are_the_same(self):
        rng = random.Random(113)
        for chart in charts(113, 20):
            for place in places_of(chart):
                if rng.randrange(4) == 0:
                    rows, repeats = rng.choice((2, 3, 5, 9, 14)), rng.choice((4, 5, 7))
                    above = Above(chart, place[0], rows, repeats)
                    self.assertEqual(hold(chart, *place, rows), fewest_cuts(above.cloth, above.loop(0, place[1])))


class DropsTest(unittest.TestCase):
    def test_ordinary_charts(self):
        self.assertEqual([hold_drops(LEAN, 0, cell) for cell in range(3)], [[(1, 2)], [(1, 1)], [(1, 1)]])
        self.assertEqual(hold_drops(STAR, 0, 1), [(1, 2)])

    def test_numbers_that_fall_late(self):
        # Each time up has one row that is not like the one below it.
        self.assertEqual(hold_drops(TWO, 5, 3), [(1, 2), (25, 1)])
        self.assertEqual(hold_drops(TWO, 0, 3), [(1, 1)])
        self.assertEqual(hold_drops(THREE, 5, 5), [(1, 3), (31, 2)])
        self.assertEqual(hold_drops(BOTH, 2, 6), [(1, 3), (7, 2), (19, 1)])
        self.assertEqual(hold_drops(AT_ONCE, 5, 4), [(1, 3), (13, 1)])
        for chart, place, falls in (
                (TWO, (5, 3), (25,)), (THREE, (5, 5), (31,)), (BOTH, (2, 6), (7, 19)), (AT_ONCE, (5, 4), (13,))):
            for fall in falls:
                for rows in (fall - 1, fall):
                    above = Above(chart, place[0], rows)
                    self.assertEqual(hold(chart, *place, rows), fewest_cuts(above.cloth, above.loop(0, place[1])))

    def test_against_hold_and_cloths(self):
        kinds = set()
        for chart in LATE_ONES + charts(114, 60):
            for row, cell in places_of(chart):
                drops = hold_drops(chart, row, cell)
                kinds.add(tuple([number for _, number in drops]))
                told = [hold(chart, row, cell, rows) for rows in range(1, drops[-1][0] + 3)]
                self.assertEqual(drops, [
                    (rows + 1, number) for rows, number in enumerate(told) if rows == 0 or number < told[rows - 1]])
                self.assertEqual(told, sorted(told, reverse=True))
                for rows in (drops[-1][0] + 50, 10 ** 9, 10 ** 29):
                    self.assertEqual(hold(chart, row, cell, rows), drops[-1][1])
                self.assertEqual(hold_for_ever(chart, row, cell), drops[-1][1])
        self.assertEqual(kinds, {(1,), (2,), (3,), (2, 1), (3, 1), (3, 2), (3, 2, 1)})

    def test_last_numbers_in_high_cloths(self):
        # What stays as it is for ever, held against cloths of many rows.
        rng = random.Random(115)
        for chart in LATE_ONES + charts(115, 40):
            place = rng.choice(places_of(chart))
            above = Above(chart, place[0], 60)
            self.assertEqual(hold(chart, *place, 60), fewest_cuts(above.cloth, above.loop(0, place[1])))

    def test_1_just_if_first_and_last_children_meet(self):
        for chart in charts(116, 12):
            for row, cell in places_of(chart):
                one = other = cell
                meets = None
                for rows in range(1, 30):
                    at = (row + rows - 1) % len(chart)
                    one, other = first_child(chart, at, one), last_child(chart, at, other)
                    meets = rows if meets is None and one == other else meets
                    self.assertEqual(hold(chart, row, cell, rows) == 1, meets is not None)


class CutsAndWaysTest(unittest.TestCase):
    def check(self, chart, row, cell, rows):
        above, many = Above(chart, row, rows), hold(chart, row, cell, rows)
        loop = above.loop(0, cell)
        cuts = hold_cuts(chart, row, cell, rows)
        self.assertIs(type(cuts), list)
        self.assertEqual(len(cuts), many)
        self.assertEqual(cuts, sorted(set(cuts)))
        for at, number in cuts:
            self.assertTrue(1 <= at <= rows)
            self.assertTrue(0 <= number < 3 * chart.counts[(row + at) % len(chart) + 1])
        self.assertIn(loop, run(above.cloth, [above.loop(*cut) for cut in cuts]))
        ways = hold_ways(chart, row, cell, rows)
        self.assertEqual(len(ways), many)
        seen = set()
        for way in ways:
            self.assertEqual(len(way), rows)
            ahead = loop
            for at, number in enumerate(way, 1):
                self.assertTrue(0 <= number < 3 * chart.counts[(row + at) % len(chart) + 1])
                self.assertNotIn((at, number), seen)
                seen.add((at, number))
                child = above.loop(at, number)
                self.assertIn(ahead, above.cloth.loops[child][1])
                ahead = child
        # Each cut is on a way of its own.
        for cut in cuts:
            self.assertIn(cut, seen)
        return many

    def test_ordinary_charts(self):
        self.assertEqual(hold_cuts(LEAN, 0, 1, 1), [(1, 2)])
        self.assertEqual(hold_ways(LEAN, 0, 1, 1), [[2]])
        self.assertEqual(hold_cuts(LEAN, 0, 0, 1), [(1, 0), (1, 1)])
        self.assertEqual([self.check(LEAN, 0, cell, 3) for cell in range(3)], [2, 1, 1])
        # Around the ring: the first child of loop 0 is in the last repeat.
        self.assertEqual(sorted(hold_ways(STAR, 0, 0, 1)), [[4], [5]])

    def test_drawn_charts(self):
        kinds = set()
        rng = random.Random(117)
        for chart in LATE_ONES + charts(117, 50):
            for row, cell in places_of(chart):
                if rng.randrange(3) == 0:
                    rows = rng.choice((1, 2, 3, 4, 6, 9, 15))
                    kinds.add((rows, self.check(chart, row, cell, rows)))
        self.assertLessEqual({(rows, number) for rows in (1, 2, 3, 4, 6, 9) for number in (1, 2, 3)}, kinds)

    def test_sixty_rows(self):
        for chart, place in ((TWO, (5, 3)), (THREE, (5, 5)), (BOTH, (2, 6)), (AT_ONCE, (5, 4)), (SOME, (1, 2))):
            for rows in (12, 24, 30, 31, 60):
                self.check(chart, *place, rows)

    def test_twice_alike_and_new(self):
        for call in (hold_cuts, hold_ways):
            one = call(STAR, 0, 0, 4)
            kept = [list(item) for item in one]
            hold_ways(LEAN, 0, 0, 4)
            self.assertEqual(call(STAR, 0, 0, 4), one)
            if call is hold_ways:
                one[0].append(7)
            one.append(7)
            self.assertEqual([list(item) for item in call(STAR, 0, 0, 4)], kept)


class ErrorsTest(Case):
    CALLS = ((hold, (1,)), (hold_cuts, (1,)), (hold_ways, (1,)), (hold_drops, ()), (hold_for_ever, ()))

    def test_place(self):
        for call, rest in self.CALLS:
            for wrong in NO_INTEGERS + [-1, 3, 10 ** 39, -10 ** 39]:
                self.wrong(InvalidPlace, (wrong, 0), call, SOME, wrong, 0, *rest)
                self.wrong(InvalidPlace, (wrong, None), call, SOME, wrong, None, *[None for _ in rest])
            for row, count in enumerate((3, 5, 3)):
                for wrong in NO_INTEGERS + [-1, count, 10 ** 39, -10 ** 39]:
                    self.wrong(InvalidPlace, (row, wrong), call, SOME, row, wrong, *rest)
                call(SOME, row, count - 1, *rest)

    def test_rows(self):
        for call in (hold, hold_cuts, hold_ways):
            for wrong in NO_INTEGERS + BELOW_ONE:
                self.wrong(InvalidWidth, wrong, call, SOME, 2, 2, wrong)
            call(SOME, 2, 2, 1)

    def test_by_name(self):
        self.assertEqual(hold(rows=9, cell=0, row=0, chart=LEAN), 2)
        self.assertEqual(hold_drops(cell=0, row=0, chart=LEAN), [(1, 2)])
        self.assertEqual(hold_for_ever(cell=0, row=0, chart=LEAN), 2)
        self.assertEqual(hold_cuts(rows=1, cell=1, row=0, chart=LEAN), [(1, 2)])
        self.assertEqual(hold_ways(rows=1, cell=1, row=0, chart=LEAN), [[2]])


if __name__ == "__main__":
    unittest.main()
