"""Promises [2], [3], [12], [20], [24]: the fewest cuts, and ways up that do not meet."""

import itertools
import random
import unittest

from runsdown.charts import Chart, cloth_at
from runsdown.cloths import Cloth
from runsdown.cutting import (
    cuts_for, cuts_for_all, fewest_cuts, fewest_for_all, judge_ways, ways_for, ways_for_all,
)
from runsdown.errors import InvalidLoop, InvalidLot, RunError
from runsdown.needles import work
from tests.models import all_cloths, all_run, drawn_cloths, drawn_lot, lots, meet, runner, ways
from tests.values import NO_INTEGERS, NO_LISTS

SMALL = work("a", 2, [("b", ((1, 2), (1, 1)))])
# Two ways up from 0, by 1 and 2 or by 3; 4 has run; 5 and 6 are fast, 6 hangs on 5.
PLAIN = Cloth(
    [("a", ()), ("a", (0,)), ("a", (1,)), ("b", (0,)), ("a", ()), ("b", (2, 3)), ("c", (3, 5))], [5, 6])
EMPTY = Cloth([], [])


def fewest(cloth, wanted, others):
    """The least number of cuts among others by which all wanted loops run, by trying all."""
    ran = runner(cloth)
    for many in range(len(others) + 1):
        for cuts in itertools.combinations(others, many):
            if set(wanted) <= set(ran(cuts)):
                return many
    return None


class OneLoopTest(unittest.TestCase):
    def check(self, cloth, loop, told):
        """Hold the cuts and the ways against each other and the words of [12]."""
        cuts, found = cuts_for(cloth, loop), ways_for(cloth, loop)
        self.assertEqual(fewest_cuts(cloth, loop), told)
        if told is None:
            self.assertEqual((cuts, found), (None, None))
            return
        self.assertEqual((len(cuts), len(found)), (told, told))
        self.assertEqual(cuts, sorted(set(cuts)))
        self.assertNotIn(loop, cuts)
        self.assertIn(loop, all_run(cloth, cuts))
        for way in found:
            self.assertEqual(way[0], loop)
            self.assertIn(way[-1], cloth.fast)
            self.assertTrue(all(other in cloth.children(one) for one, other in zip(way, way[1:])))
        for one, other in itertools.combinations(found, 2):
            self.assertEqual(meet(one, other), [loop])
        self.assertIs(judge_ways(cloth, loop, found), True)

    def test_ordinary_cloth(self):
        self.assertEqual([fewest_cuts(PLAIN, loop) for loop in range(7)], [2, 1, 1, 2, 0, None, None])
        self.assertIn(cuts_for(PLAIN, 0), ([1, 3], [2, 3], [3, 5], [5, 6]))
        self.assertEqual(cuts_for(PLAIN, 3), [5, 6])
        self.assertEqual(sorted(ways_for(PLAIN, 3)), [[3, 5], [3, 6]])
        self.assertEqual((cuts_for(PLAIN, 4), ways_for(PLAIN, 4)), ([], []))
        self.assertEqual((cuts_for(PLAIN, 6), ways_for(PLAIN, 6)), (None, None))
        self.assertEqual(fewest_cuts(SMALL, 0), 2)

    def test_all_small_cloths_by_all_lots_of_cuts(self):
        for cloth in all_cloths(4):
            for loop in range(len(cloth)):
                others = [other for other in range(len(cloth)) if other != loop]
                self.check(cloth, loop, fewest(cloth, [loop], others))

    def test_drawn_cloths_by_all_lots_of_cuts(self):
        for cloth in drawn_cloths(11, 300, 5, 9):
            for loop in range(len(cloth)):
                others = [other for other in range(len(cloth)) if other != loop]
                self.check(cloth, loop, fewest(cloth, [loop], others))

    def test_as_many_ways_as_cuts_is_enough(self):
        # As many ways as cuts show both that there are no fewer cuts and no more ways.
        for cloth in drawn_cloths(12, 60, 20, 60):
            for loop in range(len(cloth)):
                self.check(cloth, loop, fewest_cuts(cloth, loop))

    def test_many_ways(self):
        loops = [("a", ())] + [("a", (0,))] * 40 + [("b", tuple(range(1, 41)))] * 30
        cloth = Cloth(loops, list(range(41, 71)))
        self.check(cloth, 0, 30)
        self.assertEqual(cuts_for(cloth, 0), list(range(41, 71)))
        self.check(cloth, 7, 30)
        self.check(cloth.with_fast(3), 0, 31)

    def test_ways_must_give_way(self):
        # The way that is found first, whichever it is, must be changed for a second one.
        crossed = Cloth([("a", ()), ("a", (0,)), ("a", (0,)), ("a", (1, 2)), ("b", (1, 3)), ("b", (2, 3))], [4, 5])
        self.check(crossed, 0, 2)
        # Behind 3, from which all ways go on, the one way on is 5.
        narrow = Cloth([("a", ()), ("a", (0,)), ("a", (0,)), ("a", (1, 2)), ("a", (3,)), ("b", (4,))], [5])
        self.check(narrow, 0, 1)

    def test_great_cloths(self):
        chart = Chart(8, [("a", 3, ((3, 1), (1, 3), (1, 2), (3, 2))), ("b", 0, ((2, 1), (1, 2), (3, 3), (2, 2)))])
        cloth = cloth_at(chart, 6, 3)
        self.assertEqual(len(cloth), 336)
        for loop in range(len(cloth)):
            self.check(cloth, loop, fewest_cuts(cloth, loop))
        chain = Cloth([("a", ())] + [("a", (loop,)) for loop in range(999)], [999])
        self.check(chain, 0, 1)
        self.assertEqual(ways_for(chain, 0), [list(range(1000))])

    def test_results_are_new_and_equal(self):
        for call in (cuts_for, ways_for):
            first = call(PLAIN, 0)
            self.assertEqual(call(cloth=PLAIN, loop=0), first)
            kept = call(PLAIN, 0)
            first.append([9])
            self.assertEqual(call(PLAIN, 0), kept)
        found = ways_for(PLAIN, 0)
        found[0].append(9)
        self.assertNotIn(9, ways_for(PLAIN, 0)[0])
        self.assertEqual(fewest_cuts(loop=0, cloth=PLAIN), 2)

    def test_errors(self):
        for call in (fewest_cuts, cuts_for, ways_for, lambda cloth, loop: judge_ways(cloth, loop, [])):
            for wrong in NO_INTEGERS + [-1, 7, 10 ** 39, -10 ** 39]:
                with self.subTest(wrong=wrong), self.assertRaises(RunError) as caught:
                    call(PLAIN, wrong)
                self.assertIs(type(caught.exception), InvalidLoop)
                self.assertIs(caught.exception.value, wrong)
            with self.assertRaises(InvalidLoop):
                call(EMPTY, 0)
            call(PLAIN, 6)


class JudgeWaysTest(unittest.TestCase):
    def test_right(self):
        for value in ([[0, 3, 5], [0, 1, 2, 5, 6]], [[0, 1, 2, 5], [0, 3, 6]], [[0, 3, 6], [0, 1, 2, 5]]):
            right = not meet(value[0][1:], value[1][1:])
            self.assertIs(judge_ways(PLAIN, 0, value), right)
        self.assertIs(judge_ways(PLAIN, 3, [[3, 6], [3, 5]]), True)
        self.assertIs(judge_ways(PLAIN, 1, [[1, 2, 5]]), True)
        self.assertIs(judge_ways(PLAIN, 1, [[1, 2, 5, 6]]), True)
        self.assertIs(judge_ways(value=[], loop=4, cloth=PLAIN), True)

    def test_wrong(self):
        one, other = [0, 1, 2, 5], [0, 3, 6]
        wrong = [
            [], [one], [other], [one, one], [one, other, other], [one, other, []], [one, []], [one, [0]],
            [one, [0, 3, 5]], [one, [0, 3, 5, 6]], [one, [3, 6]], [one, [0, 6]], [one, [0, 3]], [one, [0, 3, 7]],
            [one, [0, 3, -1]], [one, [False, 3, 6]], [one, (0, 3, 6)], [one, None], [one, "036"], [one, 0],
            [one, [[0, 3, 6]]], [one, [0, 3, "6"]], [one, [0, 3, None]], [one, [0, 3, 10 ** 39]], [[one, other]],
            (one, other), [one, PLAIN], [PLAIN, PLAIN], [[0, 1, 2], other], [one, [6, 3, 0]], [one, [0, 0, 3, 6]],
            [[3, 5], [3, 6]], [[1, 2, 5], [0, 3, 6]],
        ]
        for value in wrong + NO_LISTS + [[value] for value in NO_INTEGERS] + [[value] * 2 for value in NO_LISTS]:
            with self.subTest(value=value):
                self.assertIs(judge_ways(PLAIN, 0, value), False)
        self.assertIs(judge_ways(PLAIN, 0, [one, other]), True)
        self.assertIs(judge_ways(PLAIN, 1, [[True, 2, 5]]), False)

    def test_loops_that_ran(self):
        for value in NO_LISTS + [[None], [[]], [[4]], [4]]:
            with self.subTest(value=value):
                self.assertIs(judge_ways(PLAIN, 4, value), False)

    def test_fast_loops(self):
        for value in NO_LISTS + [[], [[5]], [[5, 6]], [[5], [5, 6]], [None]]:
            with self.subTest(value=value):
                self.assertIs(judge_ways(PLAIN, 5, value), False)

    def test_against_all_lists_of_ways(self):
        for cloth in itertools.chain(all_cloths(3), drawn_cloths(13, 60, 4, 6)):
            for loop in range(len(cloth)):
                known = ways(cloth, [], loop)
                others = [other for other in range(len(cloth)) if other != loop]
                many = fewest(cloth, [loop], others)
                for size in range(4):
                    for value in itertools.islice(itertools.product(known, repeat=size), 200):
                        right = size == many and all(
                            meet(one, other) == [loop] for one, other in itertools.combinations(value, 2))
                        self.assertIs(judge_ways(cloth, loop, list(value)), right)


class AllLoopsTest(unittest.TestCase):
    def check(self, cloth, lot, told):
        kept = list(lot)
        cuts, found = cuts_for_all(cloth, lot), ways_for_all(cloth, lot)
        self.assertEqual((fewest_for_all(cloth, lot), len(cuts), len(found)), (told, told, told))
        self.assertEqual(lot, kept)
        self.assertEqual(cuts, sorted(set(cuts)))
        self.assertLessEqual(set(lot), set(all_run(cloth, cuts)))
        for way in found:
            self.assertIn(way[0], lot)
            self.assertIn(way[-1], cloth.fast)
            self.assertTrue(all(other in cloth.children(one) for one, other in zip(way, way[1:])))
        for one, other in itertools.combinations(found, 2):
            self.assertEqual(meet(one, other), [])

    def test_ordinary_cloth(self):
        self.check(PLAIN, [], 0)
        self.check(PLAIN, [4], 0)
        self.check(PLAIN, [0], 1)
        self.check(PLAIN, [0, 3], 2)
        self.check(PLAIN, [3, 1, 0], 2)
        self.check(PLAIN, [5], 1)
        self.check(PLAIN, [6, 5], 2)
        self.check(PLAIN, [4, 6], 1)
        self.check(PLAIN, list(range(7)), 2)
        self.assertEqual((cuts_for_all(PLAIN, [6]), ways_for_all(PLAIN, [6])), ([6], [[6]]))
        self.check(EMPTY, [], 0)

    def test_all_small_cloths_by_all_lots_of_cuts(self):
        for cloth in all_cloths(3):
            for lot in lots(len(cloth)):
                self.check(cloth, lot[::-1], fewest(cloth, lot, range(len(cloth))))

    def test_drawn_cloths_by_all_lots_of_cuts(self):
        rng = random.Random(14)
        for cloth in drawn_cloths(14, 400, 4, 9):
            for lot in (drawn_lot(rng, len(cloth)), list(range(len(cloth))), cloth.fast):
                self.check(cloth, lot, fewest(cloth, lot, range(len(cloth))))

    def test_great_cloths(self):
        rng = random.Random(15)
        chart = Chart(8, [("a", 3, ((3, 1), (1, 3), (1, 2), (3, 2))), ("b", 0, ((2, 1), (1, 2), (3, 3), (2, 2)))])
        great = cloth_at(chart, 6, 3)
        for cloth in itertools.chain([great, great + great], drawn_cloths(16, 30, 60, 120)):
            for _ in range(5):
                lot = rng.sample(range(len(cloth)), rng.randint(0, min(120, len(cloth))))
                self.check(cloth, lot, fewest_for_all(cloth, lot))
        self.assertEqual(fewest_for_all(great, list(range(len(great)))), 48)

    def test_results_are_new_and_equal(self):
        lot = [0, 3]
        for call in (cuts_for_all, ways_for_all):
            first, kept = call(PLAIN, lot), call(lot=[0, 3], cloth=PLAIN)
            self.assertEqual(first, kept)
            first.append([9])
            self.assertEqual(call(PLAIN, lot), kept)
        found = ways_for_all(PLAIN, lot)
        found[0].append(9)
        self.assertNotIn(9, ways_for_all(PLAIN, lot)[0])
        self.assertEqual(fewest_for_all(lot=lot, cloth=PLAIN), 2)
        self.assertEqual(lot, [0, 3])

    def test_errors(self):
        for call in (fewest_for_all, cuts_for_all, ways_for_all):
            wrong = [(value, -1) for value in NO_LISTS]
            wrong += [([value], 0) for value in NO_INTEGERS + [-1, 7, 10 ** 39, -10 ** 39]]
            wrong += [([3, value, 3, None], 1) for value in NO_INTEGERS + [-1, 7, 3]]
            for value, index in wrong:
                with self.subTest(value=value), self.assertRaises(RunError) as caught:
                    call(PLAIN, value)
                self.assertIs(type(caught.exception), InvalidLot)
                self.assertEqual(caught.exception.value, index)
            call(PLAIN, [6, 0])


if __name__ == "__main__":
    unittest.main()
