"""Promises [2], [13], [14], [20], [25]: what cuts lie behind a run, and cuts that work together."""

import itertools
import random
import unittest

from runsdown.charts import Chart, cloth_at
from runsdown.cloths import Cloth
from runsdown.cutting import adds_up, fits, is_run_lot, joint_cuts, least_cuts, least_run, shown, surely
from runsdown.errors import InvalidLoop, InvalidLot, Unfit
from runsdown.needles import work
from runsdown.runs import run
from tests.cases import Case
from tests.models import all_cloths, all_run, drawn_cloths, drawn_lot, lots, runner
from tests.values import NO_INTEGERS, NO_LISTS

SMALL = work("a", 2, [("b", ((1, 2), (1, 1)))])
# 0 hangs on 2 and 3, 1 on 3; 2 on 4, 3 on 5; 4 and 5 are fast, 6 has run.
PLAIN = Cloth([("a", ()), ("a", ()), ("a", (0,)), ("b", (0, 1)), ("a", (2,)), ("b", (3,)), ("c", (5,))], [4, 5])
EMPTY = Cloth([], [])


def cases(cloth):
    """What has run behind each lot of cuts: a list of (cuts, ran)."""
    ran = runner(cloth)
    return [(cuts, ran(cuts)) for cuts in lots(len(cloth))]


class RunLotTest(unittest.TestCase):
    def test_ordinary_cloth(self):
        self.assertEqual([least_cuts(SMALL, [1, 4]), least_cuts(SMALL, [4])], [[4], None])
        self.assertEqual([is_run_lot(SMALL, [4, 1]), is_run_lot(SMALL, [4])], [True, False])
        for lot, cuts in (
                ([6], []), ([3, 6, 1], [3]), ([1, 6], [1]), ([6, 5, 3, 1], [5]), ([0, 6], [0]),
                ([2, 4, 6], [4]), ([4, 2, 6, 0, 1], [0, 1, 4]), ([0, 1, 2, 3, 4, 5, 6], [4, 5])):
            self.assertIs(is_run_lot(PLAIN, lot), True)
            self.assertEqual(least_cuts(PLAIN, lot), cuts)
        for lot in ([], [0], [3, 6], [2, 3, 6, 1], [4, 6], [1, 3, 5], [6, 5, 3]):
            self.assertIs(is_run_lot(PLAIN, lot), False)
            self.assertIsNone(least_cuts(PLAIN, lot))
        self.assertEqual((is_run_lot(EMPTY, []), least_cuts(EMPTY, [])), (True, []))

    def check(self, cloth):
        known = cases(cloth)
        for lot in lots(len(cloth)):
            behind = [cuts for cuts, ran in known if ran == lot]
            told = least_cuts(cloth, lot[::-1])
            self.assertIs(is_run_lot(cloth, lot[::-1]), bool(behind))
            if not behind:
                self.assertIsNone(told)
                continue
            # They must be cut, and cutting them alone is enough.
            self.assertEqual(told, [loop for loop in lot if all(loop in cuts for cuts in behind)])
            self.assertIn(told, behind)

    def test_all_small_cloths_by_all_cuts(self):
        for cloth in all_cloths(4):
            self.check(cloth)

    def test_drawn_cloths_by_all_cuts(self):
        for cloth in drawn_cloths(21, 40, 5, 8):
            self.check(cloth)

    def test_what_has_run_behind_drawn_cuts(self):
        rng = random.Random(22)
        great = cloth_at(Chart(8, [("a", 3, ((3, 1), (1, 3), (1, 2), (3, 2)))]), 6, 6)
        for cloth in itertools.chain([great] * 5, drawn_cloths(23, 200, 10, 60)):
            cuts = drawn_lot(rng, len(cloth))[:rng.randint(0, 8)]
            lot = all_run(cloth, cuts)
            rng.shuffle(lot)
            kept = list(lot)
            self.assertIs(is_run_lot(cloth=cloth, lot=lot), True)
            least = least_cuts(cloth=cloth, lot=lot)
            self.assertEqual(lot, kept)
            self.assertLessEqual(set(least), set(cuts))
            self.assertEqual(least, sorted(set(least)))
            self.assertEqual(all_run(cloth, least), sorted(lot))
            for loop in least:
                self.assertNotEqual(all_run(cloth, [one for one in least if one != loop]), sorted(lot))
            for loop in range(0, len(cloth), 7):
                changed = [one for one in lot if one != loop] if loop in lot else lot + [loop]
                self.assertIs(is_run_lot(cloth, changed), run(cloth, changed) == sorted(changed))

    def test_results_are_new(self):
        lot = [0, 6]
        told = least_cuts(PLAIN, lot)
        told.append(9)
        self.assertEqual((least_cuts(PLAIN, lot), lot), ([0], [0, 6]))


class FitTest(unittest.TestCase):
    def check(self, cloth, stood, ran, known):
        """Hold everything against all lots of cuts."""
        numbers = range(len(cloth))
        fitting = [gone for _, gone in known if set(ran) <= set(gone) and not set(stood) & set(gone)]
        self.assertIs(fits(cloth, stood, ran), bool(fitting))
        if not fitting:
            self.assertIsNone(least_run(cloth, stood, ran))
            for call in (surely, lambda *told: shown(*told, 0)):
                if len(cloth) > 0:
                    with self.assertRaises(Unfit) as caught:
                        call(cloth, stood, ran)
                    self.assertEqual(caught.exception.value, 0)
            return
        least = least_run(cloth, stood, ran)
        self.assertIn(least, fitting)
        self.assertTrue(all(set(least) <= set(gone) for gone in fitting))
        always = [loop for loop in numbers if all(loop not in gone for gone in fitting)]
        never = [loop for loop in numbers if all(loop in gone for gone in fitting)]
        still = [loop for loop in numbers if loop not in always + never]
        self.assertEqual(surely(cloth, stood, ran), (always, never, still))
        for loop in numbers:
            told = shown(cloth, stood, ran, loop)
            if loop not in still:
                self.assertIsNone(told)
                continue
            self.assertIs(type(told), tuple)
            gone, other = [all_run(cloth, cuts) for cuts in told]
            self.assertTrue(gone in fitting and other in fitting)
            self.assertTrue(loop not in gone and loop in other)
            self.assertEqual([sorted(set(cuts)) for cuts in told], list(told))

    def test_ordinary_cloth(self):
        self.assertEqual(least_run(PLAIN, [], [3]), [1, 3, 6])
        self.assertEqual(surely(PLAIN, [], []), ([], [6], [0, 1, 2, 3, 4, 5]))
        self.assertEqual(surely(PLAIN, [0], [3]), ([0, 2, 4], [1, 3, 6], [5]))
        self.assertEqual(surely(PLAIN, [1], [2]), ([1, 3, 5], [2, 6], [0, 4]))
        self.assertEqual(surely(PLAIN, [0], []), ([0], [6], [1, 2, 3, 4, 5]))
        self.assertIsNone(shown(PLAIN, [0], [3], 2))
        self.assertIsNone(shown(PLAIN, [0], [3], 6))
        self.check(PLAIN, [0], [3], cases(PLAIN))

    def test_nothing_fits(self):
        for stood, ran in (([6], []), ([1], [3]), ([0], [2, 3]), ([0], [5, 4]), ([0], [0]), ([5, 2], [1, 2])):
            self.assertIs(fits(PLAIN, stood, ran), False)
            self.check(PLAIN, stood, ran, cases(PLAIN))

    def test_a_loop_in_both_lists(self):
        for loop in range(7):
            self.assertIs(fits(PLAIN, [loop], [loop]), False)

    def test_empty_lists(self):
        for cloth in (EMPTY, SMALL, PLAIN):
            self.assertIs(fits(cloth, [], []), True)
            self.assertEqual(least_run(cloth, [], []), run(cloth, []))
            self.check(cloth, [], [], cases(cloth))
        self.assertEqual(surely(EMPTY, [], []), ([], [], []))

    def test_all_small_cloths_by_all_cuts(self):
        for cloth in all_cloths(3):
            known = cases(cloth)
            for stood in lots(len(cloth)):
                for ran in lots(len(cloth)):
                    self.check(cloth, stood[::-1], ran[::-1], known)

    def test_drawn_cloths_by_all_cuts(self):
        rng = random.Random(24)
        for cloth in drawn_cloths(25, 120, 4, 8):
            known, many = cases(cloth), len(cloth)
            for _ in range(12):
                sizes = rng.choice((0, 1, 1, 2, 3)), rng.choice((0, 1, 1, 2, 3))
                stood, ran = [rng.sample(range(many), size) for size in sizes]
                kept = list(stood), list(ran)
                self.check(cloth, stood, ran, known)
                self.assertEqual((stood, ran), kept)

    def test_greater_cloths(self):
        rng = random.Random(26)
        for cloth in drawn_cloths(27, 40, 30, 60):
            many = len(cloth)
            gone = all_run(cloth, rng.sample(range(many), 3))
            left = [loop for loop in range(many) if loop not in gone]
            stood, ran = rng.sample(left, min(3, len(left))), rng.sample(gone, 2)
            self.assertIs(fits(cloth=cloth, stood=stood, ran=ran), True)
            self.assertLessEqual(set(least_run(cloth=cloth, stood=stood, ran=ran)), set(gone))
            told = surely(cloth=cloth, stood=stood, ran=ran)
            self.assertEqual(sorted(told[0] + told[1] + told[2]), list(range(many)))
            for loop in range(many):
                if loop not in ran:
                    self.assertIs(loop in told[0], not fits(cloth, stood, ran + [loop]))
                self.assertIs(loop in told[1], loop in all_run(cloth, ran))
                pair = shown(cloth=cloth, stood=stood, ran=ran, loop=loop)
                self.assertIs(pair is not None, loop in told[2])
                for at, cuts in enumerate(pair or ()):
                    behind = all_run(cloth, cuts)
                    self.assertTrue(set(ran) <= set(behind) and not set(stood) & set(behind))
                    self.assertIs(loop in behind, at == 1)

    def test_results_are_new(self):
        stood, ran = [0], [3]
        for tell in (
                lambda: least_run(PLAIN, stood, ran), lambda: surely(PLAIN, stood, ran)[0],
                lambda: surely(PLAIN, stood, ran)[1], lambda: surely(PLAIN, stood, ran)[2],
                lambda: shown(PLAIN, stood, ran, 5)[0], lambda: shown(PLAIN, stood, ran, 5)[1]):
            first, kept = tell(), tell()
            first.append(9)
            self.assertEqual(tell(), kept)
            self.assertEqual((stood, ran), ([0], [3]))
        told = surely(PLAIN, [], [6])
        self.assertIs(type(told), tuple)


class JointTest(unittest.TestCase):
    def joint(self, known):
        """The fewest cuts that run more than their single runs, None if there are none."""
        alone = {cuts[0]: set(ran) for cuts, ran in known if len(cuts) == 1}
        found = [len(cuts) for cuts, ran in known if cuts and set(ran) != set().union(*[alone[one] for one in cuts])]
        return min(found) if found else None

    def check(self, cloth):
        known = cases(cloth)
        told, fewest = joint_cuts(cloth), self.joint(known)
        self.assertIs(adds_up(cloth), fewest is None, (cloth.loops, cloth.fast))
        if fewest is None:
            self.assertIsNone(told)
            return
        self.assertEqual(told, sorted(set(told)))
        self.assertEqual(len(told), fewest)
        self.assertGreaterEqual(fewest, 2)
        alone = set().union(*[run(cloth, [one]) for one in told])
        self.assertTrue(set(run(cloth, told)) - alone)

    def test_ordinary_cloths(self):
        self.assertEqual((adds_up(SMALL), joint_cuts(SMALL)), (False, [2, 3]))
        self.assertEqual((adds_up(EMPTY), joint_cuts(EMPTY)), (True, None))
        chain = Cloth([("a", ()), ("a", (0,)), ("a", (1,))], [2])
        self.assertEqual((adds_up(chain), joint_cuts(chain)), (True, None))
        bare = Cloth([("a", ()), ("a", (0,)), ("a", (0,))], [])
        self.assertEqual((adds_up(bare), joint_cuts(bare)), (True, None))
        self.assertIs(adds_up(cloth=PLAIN), False)
        self.check(PLAIN)

    def test_a_child_by_which_it_runs_beside_another_one(self):
        # 0 has the children 1 and 2, but 1 hangs on 2 alone.
        cloth = Cloth([("a", ()), ("a", (0,)), ("a", (0, 1))], [2])
        self.assertEqual((adds_up(cloth), joint_cuts(cloth)), (True, None))
        # 0 runs by 3, which is not its child: its two children together take it.
        cloth = Cloth([("a", ()), ("a", (0,)), ("a", (0,)), ("a", (1, 2))], [3])
        self.assertEqual((adds_up(cloth), joint_cuts(cloth)), (False, [1, 2]))

    def test_fewer_joint_cuts_than_children(self):
        # Three children of 0, but all their ways go on through 4 or 5.
        loops = [("a", ()), ("a", (0,)), ("a", (0,)), ("a", (0,)), ("a", (1, 2, 3)), ("a", (1, 2, 3))]
        self.check(Cloth(loops, [4, 5]))
        self.assertEqual(len(joint_cuts(Cloth(loops, [4, 5]))), 2)
        # Three cuts at least.
        wide = Cloth([("a", ()), ("a", (0,)), ("a", (0,)), ("a", (0,))], [1, 2, 3])
        self.assertEqual(joint_cuts(wide), [1, 2, 3])
        # The fewest cuts are told, wherever the loop that they take lies.
        for cloth in (wide + SMALL, SMALL + wide):
            self.assertEqual(len(joint_cuts(cloth)), 2)

    def test_all_small_cloths_by_all_cuts(self):
        for cloth in all_cloths(4):
            self.check(cloth)

    def test_drawn_cloths_by_all_cuts(self):
        for cloth in drawn_cloths(28, 250, 5, 8):
            self.check(cloth)

    def test_greater_cloths(self):
        for cloth in drawn_cloths(29, 60, 30, 60):
            told = joint_cuts(cloth=cloth)
            self.assertIs(told is None, adds_up(cloth))
            if told is not None:
                alone = set().union(*[run(cloth, [one]) for one in told])
                self.assertTrue(set(run(cloth, told)) - alone)
                kept = list(told)
                told.clear()
                self.assertEqual(joint_cuts(cloth), kept)


class ErrorsTest(Case):
    FIRST = (
        is_run_lot, least_cuts,
        lambda cloth, lot: fits(cloth, lot, None), lambda cloth, lot: least_run(cloth, lot, None),
        lambda cloth, lot: surely(cloth, lot, None), lambda cloth, lot: shown(cloth, lot, None, None),
    )
    SECOND = (
        lambda cloth, lot: fits(cloth, [6], lot), lambda cloth, lot: least_run(cloth, [6], lot),
        lambda cloth, lot: surely(cloth, [6], lot), lambda cloth, lot: shown(cloth, [6], lot, None),
    )

    def test_lists(self):
        for call in self.FIRST + self.SECOND:
            for wrong in NO_LISTS:
                self.wrong(InvalidLot, -1, call, PLAIN, wrong)
            for wrong in NO_INTEGERS + [-1, 7, 10 ** 39, -10 ** 39]:
                self.wrong(InvalidLot, 0, call, PLAIN, [wrong])
                self.wrong(InvalidLot, 2, call, PLAIN, [6, 0, wrong, 6])
            self.wrong(InvalidLot, 1, call, PLAIN, [3, 3])
            self.wrong(InvalidLot, 3, call, PLAIN, [3, 1, 2, 1, 9])
            self.wrong(InvalidLot, 0, call, EMPTY, [0])
        is_run_lot(PLAIN, [6, 0])
        least_cuts(PLAIN, [6, 0])

    def test_loop_behind_the_lists_and_ahead_of_unfit(self):
        for wrong in NO_INTEGERS + [-1, 7, 10 ** 39, -10 ** 39]:
            self.wrong(InvalidLoop, wrong, shown, PLAIN, [], [], wrong)
            self.wrong(InvalidLoop, wrong, shown, PLAIN, [6], [], wrong)
            self.wrong(InvalidLoop, wrong, shown, PLAIN, [0], [0], wrong)
        self.wrong(InvalidLoop, 0, shown, EMPTY, [], [], 0)

    def test_unfit(self):
        for stood, ran in (([6], []), ([0], [2, 3]), ([0], [0])):
            self.wrong(Unfit, 0, surely, PLAIN, stood, ran)
            for loop in range(7):
                self.wrong(Unfit, 0, shown, PLAIN, stood, ran, loop)
        self.wrong(InvalidLot, 1, surely, PLAIN, [6], [0, 0])
        self.wrong(InvalidLot, 1, shown, PLAIN, [0, 0], [0, 0, 9], 9)
        self.wrong(InvalidLot, -1, shown, PLAIN, [6], (), 9)


if __name__ == "__main__":
    unittest.main()
