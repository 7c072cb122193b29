"""Promises [2], [3], [5], [11], [20], [23]: what stands, what runs, what one loop takes."""

import itertools
import random
import unittest

from runsdown.charts import Chart, cloth_at
from runsdown.cloths import Cloth
from runsdown.errors import InvalidLoop, InvalidLot
from runsdown.needles import work
from runsdown.runs import (
    judge_order, judge_way, run, run_order, standing, taken, taker, takers, way_up, worst_cut,
)
from tests.cases import Case
from tests.models import all_cloths, all_run, drawn_cloths, drawn_lot, lots, ways
from tests.values import NO_INTEGERS, NO_LISTS

# 0 and 1 are laid; 2, 3 through 0; 4 through 1 and 2; 5 through 4; 6 hangs loose; 7 through 3.
PLAIN = Cloth(
    [("a", ()), ("a", ()), ("b", (0,)), ("b", (0,)), ("b", (1, 2)), ("c", (4,)), ("a", ()), ("c", (3,))], [5, 7])
EMPTY = Cloth([], [])


def is_way_up(cloth, cuts, loop, value):
    """The words of [5] for a list of integers."""
    return value in ways(cloth, cuts, loop)


def is_order(cloth, cuts, value):
    """The words of [23] for a list of integers."""
    if sorted(value) != all_run(cloth, cuts):
        return False
    return all(
        value.index(child) < at for at, loop in enumerate(value) if loop not in cuts
        for child in cloth.children(loop))


class StandingTest(unittest.TestCase):
    def test_ordinary_cloth(self):
        self.assertEqual(standing(PLAIN, []), [0, 1, 2, 3, 4, 5, 7])
        self.assertEqual(run(PLAIN, []), [6])
        self.assertEqual(standing(PLAIN, [4]), [0, 3, 5, 7])
        self.assertEqual(run(PLAIN, [4]), [1, 2, 4, 6])
        self.assertEqual(run(PLAIN, [7, 2]), [0, 2, 3, 6, 7])
        self.assertEqual(run(PLAIN, [2, 7]), [0, 2, 3, 6, 7])

    def test_example(self):
        small = work("a", 2, [("b", ((1, 2), (1, 1)))])
        self.assertEqual([run(small, [4]), run(small, [2, 3]), taker(small, 1)], [[1, 4], [0, 2, 3], 4])

    def test_empty_cloth(self):
        self.assertEqual((standing(EMPTY, []), run(EMPTY, []), run_order(EMPTY, [])), ([], [], []))
        self.assertEqual((takers(EMPTY), worst_cut(EMPTY)), ([], None))
        self.assertTrue(judge_order(EMPTY, [], []))

    def test_fast_loops_that_are_cut(self):
        self.assertEqual(run(PLAIN, [5]), [1, 2, 4, 5, 6])
        self.assertEqual(run(PLAIN, [5, 7]), [0, 1, 2, 3, 4, 5, 6, 7])
        # A fast loop stands by itself, with nothing above it.
        tall = Cloth([("a", ()), ("a", (0,)), ("a", (1,))], [0, 2])
        self.assertEqual((run(tall, [2]), run(tall, [1]), run(tall, [0])), ([1, 2], [1], [0]))

    def test_nothing_is_fast(self):
        cloth = Cloth([("a", ()), ("a", (0,)), ("a", (0, 1))], [])
        self.assertEqual((run(cloth, []), standing(cloth, [])), ([0, 1, 2], []))
        self.assertEqual(standing(cloth, [1]), [])

    def test_all_small_cloths_by_the_words(self):
        for cloth in all_cloths(4):
            for cuts in lots(len(cloth)):
                ran = run(cloth, cuts[::-1])
                stands = standing(cloth, cuts)
                self.assertEqual(ran, all_run(cloth, cuts), (cloth.loops, cloth.fast, cuts))
                self.assertEqual(sorted(ran + stands), list(range(len(cloth))))
                self.assertEqual(stands, [loop for loop in range(len(cloth)) if ways(cloth, cuts, loop)])

    def test_drawn_cloths_and_cuts_in_any_sequence(self):
        rng = random.Random(5)
        for cloth in drawn_cloths(1, 300, 5, 40):
            cuts = drawn_lot(rng, len(cloth))[:rng.randint(0, 6)]
            kept = list(cuts)
            told = all_run(cloth, cuts)
            self.assertEqual(run(cloth, cuts), told)
            self.assertEqual(cuts, kept)
            rng.shuffle(cuts)
            self.assertEqual(run(cloth=cloth, cuts=cuts), told)
            self.assertEqual(standing(cloth=cloth, cuts=cuts), [one for one in range(len(cloth)) if one not in told])

    def test_lists_are_new(self):
        for call in (standing, run, run_order):
            first = call(PLAIN, [4])
            kept = list(first)
            first.append(99)
            self.assertEqual(call(PLAIN, [4]), kept)
        told = takers(PLAIN)
        told[0] = 99
        self.assertNotEqual(takers(PLAIN), told)
        cuts = []
        told = run_order(PLAIN, cuts)
        told.append(3)
        self.assertEqual((cuts, PLAIN.fast), ([], [5, 7]))


class WayUpTest(unittest.TestCase):
    def test_ordinary_cloth(self):
        self.assertEqual(way_up(PLAIN, [], 1), [1, 4, 5])
        self.assertEqual(way_up(PLAIN, [4], 0), [0, 3, 7])
        self.assertEqual(way_up(PLAIN, [3], 0), [0, 2, 4, 5])
        self.assertEqual(way_up(PLAIN, [3], 5), [5])
        for cuts, loop in (([], 6), ([4], 4), ([4], 1), ([5, 7], 0), ([5], 5)):
            self.assertIsNone(way_up(PLAIN, cuts, loop))

    def test_all_small_cloths_by_the_words(self):
        for cloth in all_cloths(4):
            for cuts in lots(len(cloth)):
                for loop in range(len(cloth)):
                    way, known = way_up(cloth, cuts, loop), ways(cloth, cuts, loop)
                    self.assertTrue(way in known if known else way is None, (cloth.loops, cloth.fast, cuts))

    def test_drawn_cloths_by_the_words(self):
        rng = random.Random(7)
        for cloth in drawn_cloths(2, 100, 5, 40):
            cuts = drawn_lot(rng, len(cloth))[:rng.randint(0, 3)]
            ran = all_run(cloth, cuts)
            for loop in range(len(cloth)):
                way = way_up(cloth, cuts, loop)
                self.assertEqual(way is None, loop in ran)
                self.assertEqual(way_up(cloth=cloth, cuts=list(cuts), loop=loop), way)
                if way is not None:
                    self.assertEqual(way[0], loop)
                    self.assertIn(way[-1], cloth.fast)
                    self.assertEqual([one for one in way if one in cuts], [])
                    for one, other in zip(way, way[1:]):
                        self.assertIn(other, cloth.children(one))
                    self.assertTrue(judge_way(cloth, cuts, loop, way))

    def test_judge_way_against_all_lists(self):
        for cloth in all_cloths(3):
            many = len(cloth)
            values = [list(one) for size in range(many + 2) for one in itertools.product(range(many), repeat=size)]
            for cuts in lots(many):
                for loop in range(many):
                    for value in values:
                        self.assertIs(
                            judge_way(cloth, cuts, loop, value), is_way_up(cloth, cuts, loop, value),
                            (cloth.loops, cloth.fast, cuts, loop, value))

    def test_judge_way_right(self):
        self.assertTrue(judge_way(PLAIN, [3], 0, [0, 2, 4, 5]))
        self.assertTrue(judge_way(PLAIN, [], 0, [0, 3, 7]))
        self.assertTrue(judge_way(value=[7], loop=7, cuts=[5], cloth=PLAIN))
        tall = Cloth([("a", ()), ("a", (0,)), ("a", (1,))], [1, 2])
        self.assertTrue(judge_way(tall, [], 0, [0, 1]))
        self.assertTrue(judge_way(tall, [], 0, [0, 1, 2]))

    def test_judge_way_wrong(self):
        wrong = [
            [], [0], [0, 2], [0, 2, 4], [0, 4, 5], [2, 4, 5], [0, 2, 5], [0, 2, 4, 5, 5], [0, 0, 2, 4, 5],
            [0, 2, 2, 4, 5], [5, 4, 2, 0], [0, 4, 2, 5], [0, 2, 4, 7], [0, 2, 4, 8], [0, 2, 4, -3], [0, -6, 4, 5],
            [0, 2, 4, 5, 6], [False, 2, 4, 5], [0, 2, 4, "5"], [0, 2, 4, None], [0, 2, 4, [5]], [0, 2, 4, (5,)],
            [0, 2, 4, PLAIN], [[0, 2, 4, 5]], [0, 2, 4, 10 ** 39], [-10 ** 39], (0, 2, 4, 5), "0245",
        ]
        for value in wrong + NO_LISTS + [[one] for one in NO_INTEGERS]:
            with self.subTest(value=value):
                self.assertIs(judge_way(PLAIN, [3], 0, value), False)
        self.assertIs(judge_way(PLAIN, [], 1, [True, 4, 5]), False)
        self.assertIs(judge_way(PLAIN, [], 1, [1, 4, 5]), True)
        for cut in (0, 2, 4, 5):
            self.assertIs(judge_way(PLAIN, [cut], 0, [0, 2, 4, 5]), False)

    def test_no_way_is_none_of_the_loops_that_ran(self):
        for value in (None, [], [6], False):
            self.assertIs(judge_way(PLAIN, [], 6, value), False)


class RunOrderTest(unittest.TestCase):
    def test_all_small_cloths_by_the_words(self):
        for cloth in all_cloths(4):
            for cuts in lots(len(cloth)):
                value = run_order(cloth, cuts)
                self.assertTrue(is_order(cloth, cuts, value), (cloth.loops, cloth.fast, cuts))
                self.assertTrue(judge_order(cloth, cuts, value))

    def test_drawn_cloths_by_the_words(self):
        rng = random.Random(9)
        for cloth in drawn_cloths(3, 200, 5, 40):
            cuts = drawn_lot(rng, len(cloth))[:rng.randint(0, 8)]
            value = run_order(cloth=cloth, cuts=cuts)
            self.assertTrue(is_order(cloth, cuts, value))
            self.assertTrue(judge_order(cloth=cloth, cuts=cuts, value=value))
            for _ in range(5):
                rng.shuffle(value)
                self.assertIs(judge_order(cloth, cuts, value), is_order(cloth, cuts, value))

    def test_judge_order_against_all_sequences(self):
        for cloth in itertools.chain(all_cloths(3), drawn_cloths(4, 30, 4, 4)):
            many = len(cloth)
            values = [list(one) for size in range(many + 1) for one in itertools.permutations(range(many), size)]
            for cuts in lots(many):
                for value in values:
                    self.assertIs(
                        judge_order(cloth, cuts, value), is_order(cloth, cuts, value),
                        (cloth.loops, cloth.fast, cuts, value))

    def test_judge_order_right(self):
        # 2 hangs on 4, which is cut; 6 hangs on nothing; 1 on 4.
        for value in itertools.permutations((1, 2, 4, 6)):
            right = value.index(4) < value.index(1) and value.index(4) < value.index(2)
            self.assertIs(judge_order(PLAIN, [4], list(value)), right)

    def test_a_cut_loop_may_come_ahead_of_its_children(self):
        self.assertIs(judge_order(PLAIN, [1, 4], [1, 4, 2, 6]), True)
        self.assertIs(judge_order(PLAIN, [4], [1, 4, 2, 6]), False)

    def test_judge_order_wrong(self):
        wrong = [
            [], [4, 2, 1], [4, 2, 6], [2, 1, 6], [4, 2, 1, 1], [4, 2, 1, 6, 6], [4, 4, 2, 1, 6], [4, 2, 1, 6, 0],
            [4, 2, 1, 0], [4, 2, 1, 8], [4, 2, 1, -2], [4, 2, True, 6], [4, 2, 1, "6"], [4, 2, 1, None],
            [4, 2, 1, [6]], [4, 2, 1, (6,)], [4, 2, 1, EMPTY], [[4, 2, 1, 6]], (4, 2, 1, 6), [4, 2, 1, 10 ** 39],
        ]
        for value in wrong + NO_LISTS:
            with self.subTest(value=value):
                self.assertIs(judge_order(PLAIN, [4], value), False)
        for value in NO_LISTS + [[one] for one in NO_INTEGERS]:
            with self.subTest(value=value):
                self.assertIs(judge_order(EMPTY, [], value), False)
        self.assertIs(judge_order(PLAIN, [4], [4, 2, 1, 6]), True)


class TakerTest(unittest.TestCase):
    def check(self, cloth):
        """Hold all four against single cuts, one by one."""
        many, told = len(cloth), takers(cloth)
        first = run(cloth, [])
        lot = {loop: [one for one in run(cloth, [loop]) if one not in first] for loop in range(many)}
        self.assertEqual([taken(cloth, loop) for loop in range(many)], list(lot.values()))
        for loop in range(many):
            others = [other for other in range(many) if other != loop and loop in lot[other]]
            near = [one for one in others if all(one in lot[other] for other in others)]
            self.assertEqual(taker(cloth, loop), near[0] if near else None)
            self.assertEqual(len(near), 1 if others else 0)
        self.assertEqual(told, [taker(cloth, loop) for loop in range(many)])
        if many > 0:
            most = max(len(one) for one in lot.values())
            self.assertEqual(worst_cut(cloth), (min(loop for loop in lot if len(lot[loop]) == most), most))

    def test_ordinary_cloth(self):
        self.assertEqual(takers(PLAIN), [None, 4, 4, 7, 5, None, None, None])
        self.assertEqual(taken(PLAIN, 5), [1, 2, 4, 5])
        self.assertEqual(taken(PLAIN, 4), [1, 2, 4])
        self.assertEqual(taken(PLAIN, 0), [0])
        self.assertEqual(worst_cut(PLAIN), (5, 4))

    def test_loops_that_have_run_without_cuts(self):
        self.assertEqual(taken(PLAIN, 6), [])
        self.assertIsNone(taker(PLAIN, 6))
        # 0 has run, though all that hangs on it hangs on 1.
        cloth = Cloth([("a", ()), ("a", (0,)), ("a", ())], [2])
        self.assertEqual(takers(cloth), [None, None, None])
        self.assertEqual([taken(cloth, loop) for loop in range(3)], [[], [], [2]])
        self.assertEqual(worst_cut(cloth), (2, 1))

    def test_nothing_stands(self):
        cloth = Cloth([("a", ()), ("a", (0,))], [])
        self.assertEqual((takers(cloth), worst_cut(cloth), taken(cloth, 1)), ([None, None], (0, 0), []))

    def test_ties(self):
        self.assertEqual(worst_cut(Cloth([("a", ())] * 3, [1, 2])), (1, 1))
        twice = Cloth([("a", ()), ("a", ()), ("a", (0,)), ("a", (1,))], [2, 3])
        self.assertEqual((worst_cut(twice), takers(twice)), ((2, 2), [2, 3, None, None]))
        self.assertEqual(worst_cut(twice + twice), (2, 2))

    def test_fast_loops_are_taken_by_no_other(self):
        tall = Cloth([("a", ()), ("a", (0,)), ("a", (1,))], [1, 2])
        self.assertEqual(takers(tall), [1, None, None])
        self.assertEqual(worst_cut(tall), (1, 2))

    def test_all_small_cloths_by_single_cuts(self):
        for cloth in all_cloths(4):
            self.check(cloth)

    def test_drawn_cloths_by_single_cuts(self):
        for cloth in drawn_cloths(5, 150, 5, 30):
            self.check(cloth)

    def test_great_cloths(self):
        chart = Chart(8, [("a", 3, ((3, 1), (1, 3), (1, 2), (3, 2))), ("b", 0, ((2, 1), (1, 2), (3, 3), (2, 2)))])
        cloth = cloth_at(chart, 5, 4)
        self.assertEqual(len(cloth), 360)
        self.check(cloth)
        chain = Cloth([("a", ())] + [("a", (loop,)) for loop in range(999)], [999])
        self.assertEqual(takers(chain), list(range(1, 1000)) + [None])
        self.assertEqual(worst_cut(chain), (999, 1000))
        self.assertEqual(way_up(chain, [], 0), list(range(1000)))
        self.assertTrue(judge_order(chain, [999], run_order(chain, [999])))

    def test_by_name(self):
        self.assertEqual(taken(loop=4, cloth=PLAIN), [1, 2, 4])
        self.assertEqual(taker(loop=4, cloth=PLAIN), 5)
        self.assertEqual((takers(cloth=PLAIN), worst_cut(cloth=PLAIN)), (takers(PLAIN), (5, 4)))


class ErrorsTest(Case):
    CUTS = (
        standing, run, run_order, lambda cloth, cuts: way_up(cloth, cuts, 0),
        lambda cloth, cuts: judge_way(cloth, cuts, 0, [0]), lambda cloth, cuts: judge_order(cloth, cuts, []),
    )
    LOOP = (
        taken, taker, lambda cloth, loop: way_up(cloth, [], loop),
        lambda cloth, loop: judge_way(cloth, [], loop, [0]),
    )

    def test_cuts(self):
        for call in self.CUTS:
            for wrong in NO_LISTS:
                self.wrong(InvalidLot, -1, call, PLAIN, wrong)
            for wrong in NO_INTEGERS + [-1, 8, 10 ** 39, -10 ** 39]:
                self.wrong(InvalidLot, 0, call, PLAIN, [wrong])
                self.wrong(InvalidLot, 2, call, PLAIN, [7, 0, wrong, 7])
            self.wrong(InvalidLot, 1, call, PLAIN, [3, 3])
            self.wrong(InvalidLot, 3, call, PLAIN, [3, 1, 2, 1, 9])
            self.wrong(InvalidLot, 0, call, EMPTY, [0])
            call(PLAIN, [7, 0])

    def test_loop(self):
        for call in self.LOOP:
            for wrong in NO_INTEGERS + [-1, 8, 10 ** 39, -10 ** 39]:
                self.wrong(InvalidLoop, wrong, call, PLAIN, wrong)
            self.wrong(InvalidLoop, 0, call, EMPTY, 0)
            call(PLAIN, 7)

    def test_cuts_ahead_of_loop(self):
        for call in (way_up, lambda cloth, cuts, loop: judge_way(cloth, cuts, loop, None)):
            self.wrong(InvalidLot, 0, call, PLAIN, [8], 8)
            self.wrong(InvalidLot, -1, call, PLAIN, None, None)
            self.wrong(InvalidLoop, 8, call, PLAIN, [0], 8)
        self.wrong(InvalidLoop, -1, judge_way, PLAIN, [], -1, None)


if __name__ == "__main__":
    unittest.main()
