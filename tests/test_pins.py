"""Promises [2], [3], [10], [20], [31]: pins."""

import itertools
import random
import unittest

from runsdown.charts import Chart, cloth_at, loop_at
from runsdown.errors import InvalidPins, InvalidPlace, InvalidWidth
from runsdown.pins import is_safe, least_pins, lot_below, pinned_depth, unsafe_tear
from runsdown.runs import run
from runsdown.tears import depth
from tests.cases import Case
from tests.models import drawn_charts, places_of, steady_charts, worked
from tests.test_tears import BAND, LEAN, SOME, STAR
from tests.values import NO_INTEGERS, NO_LISTS

STILL, ROUND = Chart(2, [("a", 0, ((1, 1), (1, 1)))]), Chart(2, [("a", 1, ((1, 1), (1, 1)))])


def charts(seed, many):
    return [LEAN, STAR, SOME, BAND, STILL, ROUND] + list(
        drawn_charts(seed, many, 6, 4)) + list(steady_charts(seed, many, 6, 4))


def drawn_pins(rng, chart):
    places = places_of(chart)
    return sorted(rng.sample(places, min(len(places), rng.choice((0, 1, 1, 2, 3)))))


def below_by_words(chart, pins, row, numbers):
    """All numbers of the row below whose children are among some, without pinned ones."""
    if not numbers:
        return []
    behind = chart.counts[row + 1]
    kin = {}
    for take, draw in worked(chart, row, numbers[0] // behind - 3, numbers[-1] // behind + 3):
        for number in take:
            kin[number] = draw
    under, count = (row - 1) % len(chart), chart.counts[row]
    return [
        number for number in sorted(kin)
        if all(child in numbers for child in kin[number]) and (under, number % count) not in pins]


def depth_by_rows(chart, pins, row, cell, width):
    """The depth of a tear lot by lot; None if a lot comes again, in whatever repeat."""
    numbers, rows, seen = below_by_words(chart, pins, row, list(range(cell, cell + width))), 0, []
    while numbers:
        rows, row = rows + 1, (row - 1) % len(chart)
        start = numbers[0] - numbers[0] % chart.counts[row + 1]
        lot = (row, [number - start for number in numbers])
        if lot in seen:
            return None
        seen.append(lot)
        numbers = below_by_words(chart, pins, row, numbers)
    return rows


class LotBelowTest(unittest.TestCase):
    def test_ordinary_chart(self):
        # Row 0 draws 0 and 1 through 2 of row 2, and 2 through 3 and 4.
        self.assertEqual(lot_below(SOME, [], 0, [0, 1, 2]), [2, 3, 4])
        self.assertEqual(lot_below(SOME, [], 0, [0, 2]), [3, 4])
        self.assertEqual(lot_below(SOME, [], 0, [0]), [])
        self.assertEqual(lot_below(SOME, [], 0, []), [])
        self.assertEqual(lot_below(SOME, [], 0, [-3, -2, 2, 6]), [-1, 3, 4])
        # Pins of row 2 count there, in all repeats; those of other rows do not.
        self.assertEqual(lot_below(SOME, [(2, 1)], 0, [0, 1, 2]), [2, 3])
        self.assertEqual(lot_below(SOME, [(0, 0), (0, 2), (1, 3)], 0, [0, 1, 2]), [2, 3, 4])
        self.assertEqual(lot_below(SOME, [(2, 0), (2, 1), (2, 2)], 0, [0, 1, 2]), [])
        # Pinned loops can be in the list: they are cut.
        self.assertEqual(lot_below(LEAN, [(0, 0)], 0, [0, 1, 2]), [1, 2])

    def test_against_all_children(self):
        rng = random.Random(121)
        for chart in charts(121, 80):
            for row in range(len(chart)):
                count = chart.counts[row + 1]
                for _ in range(8):
                    far = rng.choice((0, 0, 10 ** 29, -10 ** 29)) * count
                    gaps = rng.choice((1, 0.9, 0.6))
                    numbers = [far + at for at in range(-count, rng.randint(1, 4) * count) if rng.random() < gaps]
                    pins, kept = drawn_pins(rng, chart), list(numbers)
                    told = lot_below(chart, pins, row, numbers)
                    self.assertEqual(told, below_by_words(chart, pins, row, numbers))
                    self.assertEqual(numbers, kept)

    def test_without_pins_a_stretch_gives_a_stretch(self):
        for row in range(3):
            for left, right in itertools.combinations(range(-3, 12), 2):
                told = lot_below(SOME, [], row, list(range(left, right + 1)))
                self.assertEqual(told, list(range(told[0], told[-1] + 1)) if told else [])


class PinnedDepthTest(unittest.TestCase):
    def test_example(self):
        self.assertEqual(pinned_depth(LEAN, [(0, 2)], 0, 0, 3), 2)
        self.assertIs(is_safe(STAR, []), True)
        self.assertEqual(least_pins(LEAN, 1), [[(0, 2)]])

    def test_ordinary_charts(self):
        self.assertIsNone(pinned_depth(STILL, [], 0, 0, 1))
        self.assertEqual(pinned_depth(STILL, [(0, 0)], 0, 0, 1), 0)
        self.assertIsNone(pinned_depth(STILL, [(0, 0)], 0, 1, 1))
        self.assertIsNone(pinned_depth(STILL, [(0, 0)], 0, 0, 2))
        # What goes round comes to the pin one row later.
        self.assertEqual([pinned_depth(ROUND, [(0, 0)], 0, cell, 1) for cell in range(2)], [1, 0])
        self.assertEqual([pinned_depth(ROUND, [(0, 0)], 0, cell, 2) for cell in range(2)], [1, 1])
        # Pinned loops are cut by the tear itself.
        self.assertEqual(pinned_depth(STAR, [(0, 1)], 0, 0, 2), 1)
        self.assertEqual(pinned_depth(LEAN, [(0, 0), (0, 1), (0, 2)], 0, 0, 3), 0)

    def test_without_pins(self):
        for chart in charts(122, 40):
            for row, cell in places_of(chart):
                for width in range(1, chart.counts[row + 1] + 1):
                    self.assertEqual(pinned_depth(chart, [], row, cell, width), depth(chart, row, cell, width))

    def test_lot_by_lot(self):
        rng = random.Random(123)
        kinds = set()
        for chart in charts(123, 40):
            for row, cell in places_of(chart):
                width, pins = rng.randint(1, chart.counts[row + 1]), drawn_pins(rng, chart)
                told = pinned_depth(chart, pins, row, cell, width)
                self.assertEqual(told, depth_by_rows(chart, pins, row, cell, width))
                kinds.add(told)
        self.assertLessEqual({None, 0, 1, 2, 3, 4, 5, 6, 7, 8}, kinds)

    def test_in_cloths_whose_pinned_loops_are_fast(self):
        rng = random.Random(124)
        for chart in [LEAN, STAR, ROUND] + list(drawn_charts(124, 12, 4, 2)) + list(steady_charts(124, 25, 5, 2)):
            m, n, high = 2, 4, len(chart)
            pins = drawn_pins(rng, chart)
            cloth = cloth_at(chart, m, n)
            for time, (row, cell), repeat in itertools.product(range(n), pins, range(m)):
                loop = loop_at(chart, m, n, time, row, cell + repeat * chart.counts[row + 1])
                cloth = cloth.with_fast(loop)
            for row, cell in places_of(chart):
                rows = (n - 1) * high + row
                for width in range(1, chart.counts[row + 1] + 1):
                    tear = [loop_at(chart, m, n, n - 1, row, cell + at) for at in range(width)]
                    ran = [loop for loop in run(cloth, tear) if loop not in tear and loop >= m * chart.width]
                    told = pinned_depth(chart, pins, row, cell, width)
                    firsts = [loop_at(chart, m, n, *divmod(at, high), 0) for at in range(rows + 1)]
                    goes = rows - max([at for at in range(rows + 1) if firsts[at] <= ran[0]]) if ran else 0
                    self.assertEqual(goes, rows if told is None or told > rows else told)


class SafeTest(unittest.TestCase):
    def tears(self, chart):
        return sorted([
            (width, row, cell) for row, cell in places_of(chart) for width in range(1, chart.counts[row + 1] + 1)])

    def test_ordinary_charts(self):
        self.assertEqual([is_safe(STAR, []), is_safe(STILL, []), is_safe(LEAN, [])], [True, False, False])
        self.assertEqual([unsafe_tear(STAR, []), unsafe_tear(STILL, [])], [None, (1, 0, 0)])
        self.assertEqual(unsafe_tear(STILL, [(0, 0)]), (1, 0, 1))
        self.assertEqual(unsafe_tear(LEAN, []), (1, 0, 2))
        self.assertEqual(unsafe_tear(LEAN, [(0, 0)]), (1, 0, 2))
        self.assertIs(is_safe(STILL, [(0, 0), (0, 1)]), True)
        self.assertIs(is_safe(ROUND, [(0, 1)]), True)

    def test_against_all_tears(self):
        rng = random.Random(125)
        kinds = set()
        for chart in charts(125, 50):
            for pins in ([], drawn_pins(rng, chart), drawn_pins(rng, chart)):
                endless = [tear for tear in self.tears(chart) if depth_by_rows(chart, pins, *tear[1:], tear[0]) is None]
                self.assertIs(is_safe(chart, pins), not endless)
                self.assertEqual(unsafe_tear(chart, pins), endless[0] if endless else None)
                kinds.add(endless[0][0] if endless else None)
        self.assertLessEqual({None, 1, 2, 3}, kinds)

    def test_a_tear_of_a_higher_row_is_told(self):
        # Row 1 takes three loops in one: no tear of one loop of row 0 runs for ever, but one of row 1 does.
        chart = Chart(3, [("a", 0, ((3, 1),)), ("a", 0, ((1, 3),))])
        self.assertEqual(unsafe_tear(chart, []), (1, 0, 0))
        chart = Chart(1, [("a", 0, ((1, 3),)), ("a", 0, ((3, 1),))])
        self.assertEqual(unsafe_tear(chart, []), (1, 1, 0))
        self.assertEqual(unsafe_tear(chart, [(0, 1)]), None)


class LeastPinsTest(unittest.TestCase):
    def test_ordinary_charts(self):
        for most in (0, 1, 2):
            self.assertEqual(least_pins(STAR, most), [[]])
        self.assertEqual([least_pins(LEAN, most) for most in (0, 1, 2)], [[], [[(0, 2)]], [[(0, 2)]]])
        self.assertEqual([least_pins(STILL, most) for most in (0, 1, 2)], [[], [], [[(0, 0), (0, 1)]]])
        self.assertEqual(least_pins(ROUND, 2), [[(0, 0)], [(0, 1)]])
        # Three that stay where they are need three pins.
        self.assertEqual(least_pins(Chart(3, [("a", 0, ((1, 1),) * 3)]), 2), [])

    def check(self, chart):
        places = places_of(chart)
        safe = [
            [list(pins) for pins in itertools.combinations(places, many) if is_safe(chart, list(pins))]
            for many in range(3)]
        for most in range(3):
            found = [lists for lists in safe[:most + 1] if lists]
            self.assertEqual(least_pins(chart, most), found[0] if found else [])
        return [bool(lists) for lists in safe].index(True) if any(safe) else None

    def test_against_all_lists(self):
        kinds = set()
        for chart in charts(126, 25):
            kinds.add(self.check(chart))
        self.assertEqual(kinds, {None, 0, 1, 2})

    def test_by_the_tears_of_each_list(self):
        rng = random.Random(127)
        for chart in charts(127, 10):
            places = places_of(chart)
            told = least_pins(chart, 2)
            for _ in range(6):
                pins = sorted(rng.sample(places, min(len(places), 2)))
                endless = [place for place in places if depth_by_rows(
                    chart, pins, *place, chart.counts[place[0] + 1]) is None]
                if told and len(told[0]) == 2:
                    self.assertEqual(pins in told, not endless)
            for pins in told[:3]:
                self.assertIsNone(unsafe_tear(chart, pins))

    def test_new_each_time(self):
        one = least_pins(STILL, 2)
        one[0].append(7)
        one.append(7)
        self.assertEqual(least_pins(STILL, 2), [[(0, 0), (0, 1)]])


class ErrorsTest(Case):
    CALLS = ((lot_below, (2, [0])), (pinned_depth, (2, 2, 1)), (is_safe, ()), (unsafe_tear, ()))

    def test_pins_that_are_no_list(self):
        for call, rest in self.CALLS:
            for wrong in NO_LISTS:
                self.wrong(InvalidPins, -1, call, SOME, wrong, *rest)
                self.wrong(InvalidPins, -1, call, SOME, wrong, *[None for _ in rest])

    def test_items_of_pins(self):
        wrongs = [(value, 0) for value in NO_INTEGERS + [-1, 3, 10 ** 39, -10 ** 39]]
        wrongs += [(0, value) for value in NO_INTEGERS + [-1, 3, 10 ** 39, -10 ** 39]]
        wrongs += [(1, 5), (2, 3), (), (0,), (0, 0, 0), [0, 0], "ab", None, 0, True, SOME, ((0, 0),), {}]
        for call, rest in self.CALLS:
            for wrong in wrongs:
                self.wrong(InvalidPins, 0, call, SOME, [wrong], *rest)
                self.wrong(InvalidPins, 1, call, SOME, [(0, 0), wrong, None], *rest)
            # Not greater than the one ahead.
            for pins, index in (
                    ([(0, 0), (0, 0)], 1), ([(1, 0), (0, 2)], 1), ([(0, 1), (0, 2), (0, 1)], 2),
                    ([(0, 1), (1, 0), (1, 4), (1, 3)], 3), ([(2, 0), (1, 9)], 1)):
                self.wrong(InvalidPins, index, call, SOME, pins, *rest)
            call(SOME, [(0, 0), (0, 2), (1, 4), (2, 0)], *rest)

    def test_row_and_place(self):
        for wrong in NO_INTEGERS + [-1, 3, 10 ** 39, -10 ** 39]:
            self.wrong(InvalidPlace, wrong, lot_below, SOME, [], wrong, [0])
            self.wrong(InvalidPlace, (wrong, 0), pinned_depth, SOME, [], wrong, 0, 1)
            self.wrong(InvalidPlace, (0, wrong), pinned_depth, SOME, [], 0, wrong, None)
            self.wrong(InvalidPins, 0, pinned_depth, SOME, [None], 0, wrong, None)
            self.wrong(InvalidPins, 0, lot_below, SOME, [None], wrong, [0])

    def test_width(self):
        for row, count in enumerate((3, 5, 3)):
            for wrong in NO_INTEGERS + [0, -1, count + 1, 10 ** 39, -10 ** 39]:
                self.wrong(InvalidWidth, wrong, pinned_depth, SOME, [], row, count - 1, wrong)
            self.assertEqual(pinned_depth(SOME, [], row, 0, count), depth(SOME, row, 0, count))

    def test_most(self):
        for wrong in NO_INTEGERS + [-1, 3, 10 ** 39, -10 ** 39]:
            self.wrong(InvalidWidth, wrong, least_pins, SOME, wrong)
        self.assertEqual(least_pins(SOME, 0), [[]])

    def test_by_name(self):
        pins = [(0, 2)]
        self.assertEqual(lot_below(numbers=[0, 1, 2], row=0, pins=pins, chart=LEAN), [0, 1])
        self.assertEqual(pinned_depth(width=3, cell=0, row=0, pins=pins, chart=LEAN), 2)
        self.assertIs(is_safe(pins=pins, chart=LEAN), True)
        self.assertIsNone(unsafe_tear(pins=pins, chart=LEAN))
        self.assertEqual(least_pins(most=1, chart=LEAN), [pins])
        self.assertEqual(pins, [(0, 2)])


if __name__ == "__main__":
    unittest.main()
