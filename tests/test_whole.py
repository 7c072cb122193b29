"""Promises [1] to [20] over the whole program: its modules held against one another."""

import copy
import random
import unittest

from runsdown import errors
from runsdown.bands import least_needed, longest_behind, tears_behind
from runsdown.charts import Chart, cloth_at, loop_at
from runsdown.cloths import Cloth
from runsdown.console import Console
from runsdown.cutting import (
    adds_up, cuts_for, cuts_for_all, fewest_cuts, is_run_lot, joint_cuts, judge_ways, least_cuts, shown, surely,
    ways_for, ways_for_all)
from runsdown.heights import hold, hold_cuts, hold_for_ever, hold_ways
from runsdown.live import GuardedCloth, LiveCloth
from runsdown.maps import below, ends_at, needed, turns
from runsdown.needles import needle, work
from runsdown.pins import is_safe, least_pins, pinned_depth
from runsdown.pulls import comes_out, judge_pulls, needless_ends, out_ahead, pieces, pull_order
from runsdown.runs import run, run_order, standing, taken, taker, takers, way_up
from runsdown.tears import depth, depth_form, held_width
from runsdown.texts import read_chart, read_cloth, write_chart, write_cloth
from tests.cases import Case
from tests.models import drawn_charts, drawn_cloths, places_of, steady_charts


class ExamplesTest(unittest.TestCase):
    def test_behind_needles(self):
        small = work("a", 2, [("b", ((1, 2), (1, 1)))])
        self.assertEqual(
            [small.loops[2:], small.fast, run(small, [4]), run(small, [2, 3]), taker(small, 1), fewest_cuts(small, 0),
             adds_up(small), joint_cuts(small), least_cuts(small, [1, 4]), least_cuts(small, [4])],
            [[('b', (0,)), ('b', (0,)), ('b', (1,))], [2, 3, 4], [1, 4], [0, 2, 3], 4, 2, False, [2, 3], [4], None])

    def test_behind_charts(self):
        lean = Chart(3, [("a", 0, ((1, 2), (2, 1)))])
        star = Chart(2, [("a", 1, ((2, 2),))])
        self.assertEqual(
            [turns(lean), turns(star), below(star, 0, 0, 9), ends_at(star, 0, 0, 9, 3), needed(star, 0, 0, 0, 2),
             depth(star, 0, 0, 10 ** 20), depth_form(star, 0, 0), depth_form(lean, 0, 0), held_width(lean, 0, 2),
             len(cloth_at(lean, 2, 2))],
            [((0, 1), (0, 1)), ((1, 1), (0, 1)), (1, 10), (5, 10), (-4, -1), 50000000000000000000, ([0, 1], 2, 1),
             ([0, 1], 0, 0), 0, 18])

    def test_behind_pins(self):
        lean, star = Chart(3, [("a", 0, ((1, 2), (2, 1)))]), Chart(2, [("a", 1, ((2, 2),))])
        self.assertEqual(
            [tears_behind(star, 0, 1, 2, 1), least_needed(star, 0, 0, 0), hold(lean, 0, 0, 9), hold(lean, 0, 1, 9),
             hold_for_ever(star, 0, 0), is_safe(star, []), least_pins(lean, 1), pinned_depth(lean, [(0, 2)], 0, 0, 3)],
            [((-1, 0), (1, 2)), (2, 1), 2, 1, 2, True, [[(0, 2)]], 2])

    def test_behind_pulls(self):
        loose = work("a", 2, [("b", ((1, 2), (1, 1)))], bound=False)
        self.assertEqual(
            [pieces(loose, [3]), comes_out(loose, [], [(1, "last")]),
             out_ahead(loose, [], [(0, "last"), (1, "last")], 1), comes_out(loose, [], [(0, "first")]),
             needless_ends(loose, [], [(0, "first"), (1, "last")])],
            [[[0, 1], [2], [4]], [2, 3, 4], [4], [], []])


class ClothsOfChartsTest(unittest.TestCase):
    def test_tears_and_what_runs(self):
        # The run of a tear by the cloth, by the rows below, lot by lot and by a live cloth.
        for chart in list(drawn_charts(171, 12, 4, 2)) + list(steady_charts(171, 25, 5, 2)):
            m, n, high = 3, 3, len(chart)
            cloth = cloth_at(chart, m, n)
            for row, cell in places_of(chart):
                for width in (1, 2, chart.counts[row + 1], 2 * chart.counts[row + 1]):
                    if width > 2 * chart.counts[row + 1]:
                        continue
                    tear = [loop_at(chart, m, n, n - 1, row, cell + at) for at in range(width)]
                    ran = [loop for loop in run(cloth, tear) if loop >= m * chart.width]
                    rows = (n - 1) * high + row
                    deep = depth(chart, row, cell, width)
                    goes = rows if deep is None else min(deep, rows)
                    found = list(tear)
                    for down in range(1, goes + 1):
                        left, right = ends_at(chart, row, cell, cell + width - 1, down)
                        time, under = divmod(rows - down, high)
                        found += [loop_at(chart, m, n, time, under, number) for number in range(left, right + 1)]
                    self.assertEqual(sorted(found), ran)
                    if width <= chart.counts[row + 1]:
                        self.assertEqual(pinned_depth(chart, [], row, cell, width), deep)

    def test_what_must_be_torn(self):
        # Cutting what is needed takes a loop; a loop less at an end leaves it.
        for chart in list(drawn_charts(172, 10, 4, 2)) + list(steady_charts(172, 20, 5, 2)):
            m, n, high = 5, 3, len(chart)
            cloth = cloth_at(chart, m, n)
            for row, cell in places_of(chart):
                loop = loop_at(chart, m, n, 0, row, cell)
                for rows in range(1, n * high - row):
                    left, right = needed(chart, row, cell, cell, rows)
                    time, above = divmod(row + rows, high)
                    if right - left + 1 > 3 * chart.counts[above + 1]:
                        continue
                    tear = [loop_at(chart, m, n, time, above, number) for number in range(left, right + 1)]
                    self.assertIn(loop, run(cloth, tear))
                    self.assertNotIn(loop, run(cloth, tear[1:]))
                    self.assertNotIn(loop, run(cloth, tear[:-1]))
                    stretch = ends_at(chart, above, left, right, rows)
                    (one, two), (three, four) = tears_behind(chart, row, *stretch, rows)
                    self.assertTrue(one <= left <= two and three <= right <= four)

    def test_hold_and_the_ways_up(self):
        for chart in list(drawn_charts(173, 10, 4, 3)) + list(steady_charts(173, 20, 5, 3)):
            n, high = 3, len(chart)
            cloth = cloth_at(chart, 3, n)
            for row, cell in places_of(chart):
                for time in range(n):
                    rows = (n - 1 - time) * high + high - 1 - row
                    loop = loop_at(chart, 3, n, time, row, cell)
                    if rows == 0:
                        self.assertIsNone(fewest_cuts(cloth, loop))
                        continue
                    self.assertEqual(fewest_cuts(cloth, loop), hold(chart, row, cell, rows))
                    cuts = [
                        loop_at(chart, 3, n, *divmod(time * high + row + above, high), number)
                        for above, number in hold_cuts(chart, row, cell, rows)]
                    self.assertIn(loop, run(cloth, cuts))
                    ways = [
                        [loop] + [
                            loop_at(chart, 3, n, *divmod(time * high + row + 1 + at, high), number)
                            for at, number in enumerate(way)]
                        for way in hold_ways(chart, row, cell, rows)]
                    self.assertIs(judge_ways(cloth, loop, ways), True)
                    if rows <= 6 and hold(chart, row, cell, rows) == 1:
                        self.assertIsNotNone(taker(cloth, loop))
                        self.assertEqual(least_needed(chart, row, cell, cell)[0], 1)

    def test_pulling_a_cloth_of_a_chart(self):
        # Bound at the top nothing comes out; without the last row all does, from the last end of each thread.
        for chart in list(drawn_charts(174, 15, 4, 2)) + list(steady_charts(174, 15, 4, 2)):
            one = Chart(chart.width, [("abcdef"[index], *row[1:]) for index, row in enumerate(chart.rows)])
            cloth = cloth_at(one, 1, 2)
            ends = [(index, side) for index in range(len(pieces(cloth, []))) for side in ("first", "last")]
            self.assertTrue(set(comes_out(cloth, [], ends)).isdisjoint(cloth.fast))
            ends = [(index, side) for index in range(len(pieces(cloth, cloth.fast))) for side in ("first", "last")]
            rest = [loop for loop in range(len(cloth)) if loop not in cloth.fast]
            self.assertEqual(comes_out(cloth, cloth.fast, ends), rest)
            self.assertIs(judge_pulls(cloth, cloth.fast, ends, rest[::-1]), True)

    def test_texts(self):
        for chart in drawn_charts(175, 40):
            self.assertEqual(read_chart(write_chart(chart)), chart)
            cloth = cloth_at(read_chart(write_chart(chart)), 2, 2)
            self.assertEqual(read_cloth(write_cloth(cloth)), cloth_at(chart, 2, 2))


class LiveTest(unittest.TestCase):
    def test_against_run_and_taken(self):
        rng = random.Random(176)
        for _ in range(60):
            live, rows, width = LiveCloth("a", rng.randint(2, 6)), [], 0
            width = len(live)
            for _ in range(rng.randint(1, 4)):
                stitches = tuple([(1, rng.randint(1, 2)) for _ in live.needle])
                rows.append((rng.choice("ab"), stitches))
                live.row(*rows[-1])
            cloth = work("a", width, rows)
            self.assertEqual(live.needle, needle("a", width, rows))
            live.bind()
            self.assertEqual(live.cloth, cloth)
            for loop in range(0, len(cloth), 3):
                self.assertEqual(live.cut(loop), taken(cloth, loop))
                self.assertEqual(live.gone, run(cloth, [loop]))
                self.assertEqual([one for one in range(len(cloth)) if one not in live.gone], standing(cloth, [loop]))
                self.assertIs(is_run_lot(cloth, live.gone), True)
                live.undo()
            self.assertEqual(live.cloth, read_cloth(write_cloth(live.cloth)))

    def test_guarded_by_takers(self):
        for seed in range(20):
            rng = random.Random(seed)
            rows = []
            many = 3
            for thread in ("b", "c", "d"):
                stitches = tuple([(1, rng.randint(1, 2)) for _ in range(many)])
                many = sum(drawn for _, drawn in stitches)
                rows.append((thread, stitches))
            cloth, live = work("a", 3, rows), GuardedCloth("a", 3, kept=("a",))
            for row in rows:
                live.row(*row)
            live.bind()
            for loop in range(3, len(cloth)):
                kept = [one for one in taken(cloth, loop) if one < 3]
                if kept:
                    with self.assertRaises(errors.WouldRun) as caught:
                        live.cut(loop)
                    self.assertEqual(caught.exception.value, kept[0])
                else:
                    self.assertEqual(live.cut(loop), taken(cloth, loop))
                    live.undo()

    def test_console_tells_the_text_of_a_work(self):
        console = Console("a", 3)
        console.execute("row b 1:2 pass chain")
        console.execute("bind")
        self.assertEqual(
            console.execute("cloth"), write_cloth(work("a", 3, [("b", ((1, 2), "pass", "chain"))])))


class AllErrorsTest(Case):
    def test_each_class_with_its_value(self):
        chart, cloth, live = Chart(1, [("a", 0, ((1, 1),))]), Cloth([("a", ())], [0]), LiveCloth("a", 1)
        guarded = GuardedCloth("a", 1, kept=("a",))
        raised = (
            (errors.InvalidLoops, 1, Cloth, [("a", ()), ("a", (1,))], []),
            (errors.InvalidFast, 0, Cloth, [("a", ())], [1]),
            (errors.InvalidLoop, 1, taken, cloth, 1),
            (errors.InvalidLot, 1, run, cloth, [0, 0]),
            (errors.InvalidRow, 0, work, "a", 1, [None]),
            (errors.TooFew, (0, 0), work, "a", 1, [("a", ((2, 1),))]),
            (errors.LeftOver, (0, 1), work, "a", 1, [("a", ())]),
            (errors.InvalidChart, -1, Chart, 1, []),
            (errors.Unbalanced, 2, Chart, 1, [("a", 0, ((1, 2),))]),
            (errors.InvalidSize, 0, cloth_at, chart, 0, 1),
            (errors.InvalidPlace, (0, 1), depth, chart, 0, 1, 1),
            (errors.InvalidWidth, 0, depth, chart, 0, 0, 0),
            (errors.InvalidPins, 0, is_safe, chart, [(0, 1)]),
            (errors.InvalidEnds, 0, comes_out, cloth, [], [(1, "last")]),
            (errors.Unfit, 0, surely, cloth, [0], [0]),
            (errors.NothingToUndo, 0, live.undo),
            (errors.InvalidText, 1, read_cloth, "a\n"),
            (errors.InvalidOrder, "bound", Console("a", 1).execute, "bound"),
            (errors.WouldRun, 0, guarded.cut, 0),
        )
        for error, value, call, *arguments in raised:
            self.wrong(error, value, call, *arguments)
        self.assertEqual(len({error for error, *_ in raised}), 19)


class EqualResultsTest(unittest.TestCase):
    def test_twice_alike_whatever_is_asked_between(self):
        # Where a result is free, too.
        cloths, charts = list(drawn_cloths(177, 20, 5, 20)), list(steady_charts(177, 10, 5, 3))

        def ask():
            for cloth in cloths:
                loop, lot = len(cloth) // 2, [0, len(cloth) - 1]
                yield way_up(cloth, [], loop), run_order(cloth, lot), cuts_for(cloth, loop), ways_for(cloth, loop)
                yield cuts_for_all(cloth, lot), ways_for_all(cloth, lot), joint_cuts(cloth), takers(cloth)
                ends = [(index, "last") for index in range(len(pieces(cloth, lot)))]
                yield pull_order(cloth, lot, ends), needless_ends(cloth, lot, ends)
                yield [shown(cloth, [], [loop], open_one) for open_one in surely(cloth, [], [loop])[2]]
            for chart in charts:
                for place in places_of(chart):
                    yield hold_cuts(chart, *place, 7), hold_ways(chart, *place, 7), depth_form(chart, *place)
                yield least_pins(chart, 2), [longest_behind(chart, 0, 0, 1)]

        first = copy.deepcopy(list(ask()))
        self.assertEqual(list(ask())[::-1], first[::-1])
        # The same of equal arguments that are made anew.
        cloths[:] = [Cloth(cloth.loops, cloth.fast[::-1]) for cloth in cloths]
        charts[:] = [Chart(chart.width, chart.rows) for chart in charts]
        self.assertEqual(list(ask()), first)

    def test_arguments_stay_unchanged_and_are_not_kept(self):
        loops, fast, rows = [("a", ()), ("b", (0,))], [1], [("a", 0, ((1, 1),))]
        cloth, chart = Cloth(loops, fast), Chart(1, rows)
        loops.append(None)
        fast.append(None)
        rows.append(None)
        self.assertEqual((cloth.loops, cloth.fast, chart.rows), ([("a", ()), ("b", (0,))], [1], [("a", 0, ((1, 1),))]))
        lot, ends, pins, cuts = [1, 0], [(0, "first")], [(0, 0)], [1]
        run(cloth, lot)
        surely(cloth, [], lot)
        comes_out(cloth, cuts, ends)
        needless_ends(cloth, cuts, ends)
        is_safe(chart, pins)
        pinned_depth(chart, pins, 0, 0, 1)
        self.assertEqual((lot, ends, pins, cuts), ([1, 0], [(0, "first")], [(0, 0)], [1]))


if __name__ == "__main__":
    unittest.main()
