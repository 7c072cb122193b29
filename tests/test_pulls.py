"""Promises [2], [19], [20], [32]: which loops come out if ends are pulled."""

import itertools
import random
import unittest

from runsdown.charts import Chart, cloth_at
from runsdown.cloths import Cloth
from runsdown.errors import InvalidEnds, InvalidLoop, InvalidLot
from runsdown.needles import work
from runsdown.pulls import comes_out, judge_pulls, needless_ends, out_ahead, pieces, pull_order
from tests.cases import Case
from tests.models import all_cloths, drawn_cloths, drawn_lot, lots
from tests.values import NO_INTEGERS, NO_LISTS

LOOSE = work("a", 2, [("b", ((1, 2), (1, 1)))], bound=False)
# 0 and 1 of "a" carry 2 and 3 of "b", and these carry 4 and 5 of "a"; 6, of "c", is fast.
PLAIN = Cloth([
    ("a", ()), ("a", ()), ("b", (0,)), ("b", (1,)), ("a", (2,)), ("a", (3,)), ("c", (0,)),
], [6])
EMPTY = Cloth([], [])


def pieces_by_words(cloth, cuts):
    found = []
    for thread in sorted(set(thread for thread, _ in cloth.loops)):
        along = [loop for loop, (name, _) in enumerate(cloth.loops) if name == thread]
        for is_cut, group in itertools.groupby(along, lambda loop: loop in cuts):
            if not is_cut:
                found.append(list(group))
    return found


def all_ends(cloth, cuts):
    return [(index, side) for index in range(len(pieces_by_words(cloth, cuts))) for side in ("first", "last")]


def can_come(cloth, cuts, ends, out):
    """The loops that can come out next, by the words of [19], if some are out."""
    parts, found = pieces_by_words(cloth, cuts), []
    out = set(out) | set(cuts)
    for index, side in ends:
        part = parts[index]
        for at, loop in enumerate(part):
            between = part[:at] if side == "first" else part[at + 1:]
            if loop in out or loop in cloth.fast or not out.issuperset(between):
                continue
            if out.issuperset(cloth.children(loop)):
                found.append(loop)
    return sorted(set(found))


def all_states(cloth, cuts, ends):
    """All lots of loops that can be out, and for each what can come out next."""
    states, waiting = {}, [frozenset()]
    while waiting:
        out = waiting.pop()
        if out not in states:
            states[out] = can_come(cloth, cuts, ends, out)
            waiting.extend(out | {loop} for loop in states[out])
    return states


def drawn_ends(rng, cloth, cuts):
    ends = all_ends(cloth, cuts)
    rng.shuffle(ends)
    return ends[:rng.choice((0, 1, 2, 3, len(ends)))]


def drawn_cases(seed, many, least, most):
    """Cloths, some with few fast loops, with drawn cuts and ends."""
    rng = random.Random(seed)
    for cloth in drawn_cloths(seed, many, least, most):
        fast = [loop for loop in cloth.fast if rng.randrange(4) == 0]
        cloth = Cloth(cloth.loops, fast)
        cuts = drawn_lot(rng, len(cloth))[:rng.randint(0, 3)]
        yield cloth, cuts, drawn_ends(rng, cloth, cuts)


class PiecesTest(unittest.TestCase):
    def test_example(self):
        self.assertEqual(pieces(LOOSE, [3]), [[0, 1], [2], [4]])

    def test_ordinary_cloth(self):
        self.assertEqual(pieces(PLAIN, []), [[0, 1, 4, 5], [2, 3], [6]])
        # Cuts at the ends, next to one another, of a whole thread, in any sequence.
        self.assertEqual(pieces(PLAIN, [5, 0]), [[1, 4], [2, 3], [6]])
        self.assertEqual(pieces(PLAIN, [4, 1]), [[0], [5], [2, 3], [6]])
        self.assertEqual(pieces(PLAIN, [3, 2]), [[0, 1, 4, 5], [6]])
        self.assertEqual(pieces(PLAIN, [6, 1, 3]), [[0], [4, 5], [2]])
        self.assertEqual(pieces(PLAIN, [0, 1, 2, 3, 4, 5, 6]), [])
        self.assertEqual(pieces(EMPTY, []), [])

    def test_threads_by_their_names(self):
        cloth = Cloth([("z", ()), ("b", ()), ("aa", ()), ("b", ()), ("z", ())], [])
        self.assertEqual(pieces(cloth, []), [[2], [1, 3], [0, 4]])

    def test_drawn_cloths(self):
        for cloth, cuts, _ in drawn_cases(131, 300, 0, 40):
            self.assertEqual(pieces(cloth, cuts), pieces_by_words(cloth, cuts))


class ComesOutTest(unittest.TestCase):
    def test_example(self):
        self.assertEqual(comes_out(LOOSE, [], [(1, "last")]), [2, 3, 4])
        self.assertEqual(comes_out(LOOSE, [], [(0, "first")]), [])
        self.assertEqual(out_ahead(LOOSE, [], [(0, "last"), (1, "last")], 1), [4])
        self.assertEqual(needless_ends(LOOSE, [], [(0, "first"), (1, "last")]), [])

    def test_ordinary_cloth(self):
        self.assertEqual(comes_out(PLAIN, [], []), [])
        # 5, 4; then 3, 2 and 1; 0 is held by 6, which is fast.
        self.assertEqual(comes_out(PLAIN, [], [(0, "last")]), [4, 5])
        self.assertEqual(comes_out(PLAIN, [], [(0, "last"), (1, "first")]), [1, 2, 3, 4, 5])
        self.assertEqual(comes_out(PLAIN, [], [(0, "first"), (1, "first")]), [])
        self.assertEqual(comes_out(PLAIN, [], all_ends(PLAIN, [])), [1, 2, 3, 4, 5])
        # Cut loops are out, a fast one, too, but they are not told.
        self.assertEqual(comes_out(PLAIN, [6], all_ends(PLAIN, [6])), [0, 1, 2, 3, 4, 5])
        self.assertEqual(comes_out(PLAIN, [4], [(2, "first")]), [2])
        self.assertEqual(comes_out(PLAIN, [4], [(2, "last")]), [])
        self.assertEqual(comes_out(PLAIN, [4], [(2, "last"), (1, "last")]), [2, 3, 5])
        # A piece of one loop has two ends.
        self.assertEqual(comes_out(PLAIN, [4], [(1, "first")]), [5])
        self.assertEqual(comes_out(PLAIN, [4], [(1, "last")]), [5])
        self.assertEqual(comes_out(EMPTY, [], []), [])

    def test_all_sequences_of_small_cloths(self):
        rng = random.Random(132)
        cases = []
        for cloth in all_cloths(3):
            loops = [(rng.choice("ab"), parents) for _, parents in cloth.loops]
            one = Cloth(loops, cloth.fast)
            for cuts in lots(len(one)):
                cases.append((one, cuts, drawn_ends(rng, one, cuts)))
        cases += list(drawn_cases(133, 600, 4, 8))
        some = 0
        for cloth, cuts, ends in cases:
            states = all_states(cloth, cuts, ends)
            # Whatever the sequence, the same loops are out at the end.
            last = [sorted(out) for out in states if not states[out]]
            self.assertEqual(last, [comes_out(cloth, cuts, ends)])
            some += len(last[0]) > 2
            for loop in range(len(cloth)):
                ahead = [out for out in states if loop in states[out]]
                told = out_ahead(cloth, cuts, ends, loop)
                if not ahead:
                    self.assertIsNone(told)
                else:
                    self.assertEqual(told, sorted(frozenset.intersection(*ahead)))
        self.assertGreater(some, 100)

    def test_great_cloths(self):
        chart = Chart(4, [("a", 1, ((2, 1), (1, 2), (1, 1))), ("b", 2, ((1, 1),) * 4)])
        for m, n in ((1, 5), (2, 3), (3, 2)):
            cloth = cloth_at(chart, m, n)
            for cuts in ([], cloth.fast, cloth.fast[1:]):
                ends = all_ends(cloth, cuts)
                out = []
                while can_come(cloth, cuts, ends, out):
                    out += can_come(cloth, cuts, ends, out)
                self.assertEqual(comes_out(cloth, cuts, ends), sorted(out))
                for loop in (0, 5, len(cloth) - 6):
                    told = out_ahead(cloth, cuts, ends, loop)
                    self.assertEqual(told is None, loop not in out)

    def test_out_ahead_by_holding_back(self):
        for cloth, cuts, ends in drawn_cases(134, 60, 8, 25):
            out = comes_out(cloth, cuts, ends)
            for loop in range(len(cloth)):
                told = out_ahead(cloth, cuts, ends, loop)
                if loop not in out:
                    self.assertIsNone(told)
                    continue
                held = []
                for other in out:
                    # With the other one fast, it never comes out.
                    if other != loop and loop not in comes_out(cloth.with_fast(other), cuts, ends):
                        held.append(other)
                self.assertEqual(told, held)


class OrderTest(unittest.TestCase):
    def test_pull_order_by_the_words(self):
        for cloth, cuts, ends in drawn_cases(135, 200, 1, 25):
            order = pull_order(cloth, cuts, ends)
            self.assertEqual(sorted(order), comes_out(cloth, cuts, ends))
            for index, loop in enumerate(order):
                self.assertIn(loop, can_come(cloth, cuts, ends, order[:index]))
            self.assertIs(judge_pulls(cloth, cuts, ends, order), True)
            self.assertEqual(pull_order(cloth, cuts, ends), order)

    def test_judge_ordinary(self):
        ends = [(0, "last"), (1, "first"), (1, "last")]
        for right in ([], [5], [5, 4], [5, 3, 4, 2, 1], [5, 4, 2, 3, 1], [5, 3, 4, 1]):
            self.assertIs(judge_pulls(PLAIN, [], ends, right), True)
        for wrong in ([4], [5, 5], [3], [5, 4, 1], [5, 4, 3, 0], [5, 4, 6], [6], [7], [-1], [True], [None], [[5]],
                      ["5"], [(5,)], [5, None], (5, 4), {5}, {5: 1}, None, 5, True, "5", PLAIN):
            self.assertIs(judge_pulls(PLAIN, [], ends, wrong), False)
        # Cut loops are out already, and cannot come out.
        self.assertIs(judge_pulls(PLAIN, [5], [(0, "last")], [4]), True)
        self.assertIs(judge_pulls(PLAIN, [5], [(0, "last")], [5, 4]), False)
        self.assertIs(judge_pulls(PLAIN, [5], [(0, "first")], [4]), False)

    def test_judge_by_the_words(self):
        rng = random.Random(136)
        kinds = {True: 0, False: 0}
        for cloth, cuts, ends in drawn_cases(137, 300, 2, 12):
            right = pull_order(cloth, cuts, ends)
            for _ in range(6):
                value = right[:rng.randint(0, len(right))]
                if rng.randrange(2) and len(value) > 1:
                    at = rng.randrange(len(value) - 1)
                    value[at], value[at + 1] = value[at + 1], value[at]
                if rng.randrange(3) == 0:
                    value.insert(rng.randint(0, len(value)), rng.randrange(len(cloth)))
                fits = all([
                    loop in can_come(cloth, cuts, ends, value[:index]) for index, loop in enumerate(value)])
                kept = list(value)
                self.assertIs(judge_pulls(cloth, cuts, ends, value), fits)
                self.assertEqual(value, kept)
                kinds[fits] += 1
        self.assertGreater(min(kinds.values()), 200)


class NeedlessTest(unittest.TestCase):
    def test_ordinary_cloth(self):
        ends = [(1, "last"), (0, "last"), (2, "first"), (1, "first"), (0, "first")]
        # In their sequence, each by itself: not both ends of "b" at once.
        self.assertEqual(needless_ends(PLAIN, [], ends), [(1, "last"), (2, "first"), (1, "first"), (0, "first")])
        self.assertEqual(needless_ends(PLAIN, [], [(0, "first"), (2, "last")]), [(0, "first"), (2, "last")])
        self.assertEqual(needless_ends(PLAIN, [], []), [])

    def test_by_the_words(self):
        many = 0
        for cloth, cuts, ends in drawn_cases(138, 300, 2, 20):
            out = comes_out(cloth, cuts, ends)
            told = needless_ends(cloth, cuts, ends)
            self.assertEqual(told, [
                end for end in ends if comes_out(cloth, cuts, [other for other in ends if other != end]) == out])
            many += 0 < len(told) < len(ends)
        self.assertGreater(many, 40)


class ErrorsTest(Case):
    # What follows the ends.
    CALLS = ((comes_out, ()), (pull_order, ()), (judge_pulls, ([],)), (out_ahead, (0,)), (needless_ends, ()))

    def test_cuts(self):
        for wrong in NO_LISTS:
            self.wrong(InvalidLot, -1, pieces, PLAIN, wrong)
            for call, rest in self.CALLS:
                self.wrong(InvalidLot, -1, call, PLAIN, wrong, [], *rest)
                self.wrong(InvalidLot, -1, call, PLAIN, wrong, None, *[None for _ in rest])
        for wrong in NO_INTEGERS + [-1, 7, 3, 10 ** 39]:
            self.wrong(InvalidLot, 1, pieces, PLAIN, [3, wrong, None])
            for call, rest in self.CALLS:
                self.wrong(InvalidLot, 1, call, PLAIN, [3, wrong, None], [], *rest)
                self.wrong(InvalidLot, 1, call, PLAIN, [3, wrong], [None], *[None for _ in rest])

    def test_ends(self):
        wrongs = [(value, "first") for value in NO_INTEGERS + [-1, 3, 10 ** 39, -10 ** 39]]
        wrongs += [(0, value) for value in NO_INTEGERS + [1, "First", "first ", "las", "", b"last", ("first",)]]
        wrongs += [None, 0, "first", (), (0,), ("first", 0), (0, "first", 0), [0, "first"], {}, PLAIN, (1, "last")]
        for call, rest in self.CALLS:
            for wrong in NO_LISTS:
                self.wrong(InvalidEnds, -1, call, PLAIN, [], wrong, *rest)
                self.wrong(InvalidEnds, -1, call, PLAIN, [], wrong, *[None for _ in rest])
            for wrong in wrongs:
                self.wrong(InvalidEnds, 2, call, PLAIN, [], [(0, "last"), (1, "last"), wrong, None], *rest)
                self.wrong(InvalidEnds, 2, call, PLAIN, [], [(0, "last"), (1, "last"), wrong], *[-1 for _ in rest])
            # How many pieces there are depends on the cuts.
            self.wrong(InvalidEnds, 0, call, PLAIN, [6], [(2, "first")], *rest)
            self.wrong(InvalidEnds, 0, call, EMPTY, [], [(0, "first")], *rest)
            call(PLAIN, [1], [(3, "first"), (3, "last")], *rest)

    def test_loop(self):
        for wrong in NO_INTEGERS + [-1, 7, 10 ** 39, -10 ** 39]:
            self.wrong(InvalidLoop, wrong, out_ahead, PLAIN, [], [], wrong)
        self.assertIsNone(out_ahead(PLAIN, [0], [(0, "first")], 0))
        self.assertEqual(out_ahead(PLAIN, [], [(0, "last")], 4), [5])

    def test_by_name_and_arguments_unchanged(self):
        cuts, ends = [6, 4], [(2, "last"), (1, "last")]
        self.assertEqual(pieces(cuts=cuts, cloth=PLAIN), [[0, 1], [5], [2, 3]])
        self.assertEqual(comes_out(ends=ends, cuts=cuts, cloth=PLAIN), [2, 3, 5])
        self.assertEqual(sorted(pull_order(ends=ends, cuts=cuts, cloth=PLAIN)), [2, 3, 5])
        self.assertIs(judge_pulls(value=[5, 3], ends=ends, cuts=cuts, cloth=PLAIN), True)
        self.assertEqual(out_ahead(loop=3, ends=ends, cuts=cuts, cloth=PLAIN), [5])
        self.assertEqual(needless_ends(ends=ends, cuts=cuts, cloth=PLAIN), [])
        self.assertEqual((cuts, ends), ([6, 4], [(2, "last"), (1, "last")]))
        # Returned lists are new, also the ones inside them.
        one = pieces(PLAIN, [])
        one[0].append(7)
        self.assertEqual(pieces(PLAIN, []), [[0, 1, 4, 5], [2, 3], [6]])


if __name__ == "__main__":
    unittest.main()
