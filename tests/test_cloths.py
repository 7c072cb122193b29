"""Promises [2], [3], [4], [21]: cloths."""

import copy
import unittest

from runsdown.cloths import Cloth
from runsdown.errors import InvalidFast, InvalidLoop, InvalidLoops, RunError
from tests.values import NO_INTEGERS, NO_LISTS, NO_THREADS, NO_TUPLES, THREADS

LOOPS = [("b", ()), ("a", ()), ("b", (0,)), ("a", (0, 1)), ("cord", (0, 2, 3)), ("b", ()), ("a", (1,))]
FAST = [4, 0, 6]


def some():
    return Cloth(list(LOOPS), list(FAST))


class PropertiesTest(unittest.TestCase):
    def test_ordinary_cloth(self):
        cloth = some()
        self.assertEqual(cloth.loops, LOOPS)
        self.assertEqual(cloth.fast, [0, 4, 6])
        self.assertEqual(cloth.threads, ["a", "b", "cord"])
        self.assertEqual(len(cloth), 7)

    def test_empty_cloth(self):
        cloth = Cloth([], [])
        self.assertEqual((cloth.loops, cloth.fast, cloth.threads, len(cloth)), ([], [], [], 0))
        self.assertEqual(cloth.along("a"), [])

    def test_kinds_of_what_is_told(self):
        cloth = some()
        for told in (cloth.loops, cloth.fast, cloth.threads, cloth.children(0), cloth.along("a")):
            self.assertIs(type(told), list)
        for loop in cloth.loops:
            self.assertIs(type(loop), tuple)
            self.assertIs(type(loop[1]), tuple)

    def test_told_twice_with_changes_in_between(self):
        cloth = some()
        tellings = [
            lambda: cloth.loops, lambda: cloth.fast, lambda: cloth.threads,
            lambda: cloth.children(0), lambda: cloth.along("b"),
        ]
        for tell in tellings:
            first = tell()
            kept = list(first)
            self.assertIsNot(tell(), first)
            first.append(9)
            first[0] = "changed"
            self.assertEqual(tell(), kept)
            first.clear()
            self.assertEqual(tell(), kept)
        self.assertEqual(cloth, some())

    def test_lists_that_were_passed_and_are_changed_afterwards(self):
        loops, fast = list(LOOPS), list(FAST)
        cloth = Cloth(loops, fast)
        self.assertEqual((loops, fast), (LOOPS, FAST))
        loops[0] = ("zz", ())
        loops.append(("zz", ()))
        fast.remove(4)
        fast.append(1)
        self.assertEqual(cloth, some())
        self.assertEqual(cloth.threads, ["a", "b", "cord"])
        loops.clear()
        fast.clear()
        self.assertEqual((cloth.loops, cloth.fast), (LOOPS, [0, 4, 6]))

    def test_by_name(self):
        self.assertEqual(Cloth(fast=list(FAST), loops=list(LOOPS)), some())

    def test_fast_in_any_sequence(self):
        for fast in ([0, 1, 2], [2, 1, 0], [1, 2, 0], [2], []):
            cloth = Cloth([("a", ())] * 3, fast)
            self.assertEqual(cloth.fast, sorted(fast))

    def test_threads_that_are_names(self):
        for thread in THREADS:
            with self.subTest(thread):
                self.assertEqual(Cloth([(thread, ())], []).threads, [thread])

    def test_threads_are_told_once_and_ascending(self):
        names = ["b", "ab", "a", "z", "b", "a", "aa"]
        self.assertEqual(Cloth([(name, ()) for name in names], []).threads, ["a", "aa", "ab", "b", "z"])

    def test_big_cloths(self):
        for many in (120, 400, 600):
            loops = [("a", tuple(range(max(0, number - 120), number))) for number in range(many)]
            cloth = Cloth(loops, list(range(many - 1, -1, -1)))
            self.assertEqual(cloth.loops, loops)
            self.assertEqual(cloth.fast, list(range(many)))
            self.assertEqual(cloth.children(0), list(range(1, 121))[:many - 1])
            self.assertEqual(len(Cloth(cloth.loops, cloth.fast) + cloth), 2 * many)


class WrongLoopsTest(unittest.TestCase):
    def check(self, wrong):
        """A wrong loop is found as the first, and between others."""
        with self.subTest(wrong=wrong):
            for ahead in (0, 2):
                loops = [("a", ())] * ahead + [wrong, ("a", ()), None]
                kept = list(loops)
                with self.assertRaises(InvalidLoops) as caught:
                    Cloth(loops, [])
                self.assertEqual(caught.exception.value, ahead)
                self.assertEqual(loops, kept)

    def test_no_list(self):
        for wrong in NO_LISTS:
            with self.subTest(wrong=wrong), self.assertRaises(InvalidLoops) as caught:
                Cloth(wrong, [])
            self.assertEqual(caught.exception.value, -1)

    def test_no_tuple(self):
        for wrong in NO_TUPLES:
            self.check(wrong)

    def test_wrong_length(self):
        for wrong in ((), ("a",), ((),), ("a", (), ()), ("a", (), (), 0)):
            self.check(wrong)

    def test_wrong_threads(self):
        for wrong in NO_THREADS:
            self.check((wrong, ()))

    def test_parents_that_are_no_tuple(self):
        for wrong in NO_TUPLES:
            self.check(("a", wrong))

    def test_parents_that_are_no_numbers(self):
        for wrong in NO_INTEGERS:
            self.check(("a", (wrong,)))

    def test_parents_below_zero_or_not_earlier(self):
        for wrong in (-1, -10 ** 39, 2, 3, 10 ** 39):
            self.check(("a", (wrong,)))
        for number in range(4):
            with self.assertRaises(InvalidLoops) as caught:
                Cloth([("a", ())] * number + [("a", (number,)), ("a", ())], [])
            self.assertEqual(caught.exception.value, number)

    def test_parents_not_ascending_or_twice(self):
        for wrong in ((1, 0), (0, 0), (1, 1), (0, 1, 1), (0, 0, 1), (0, 1, 0), (0, 2), (-1, 0), (False, 1), (0, True)):
            self.check(("a", wrong))
        for wrong in ((0, 2, 1), (2, 0, 1), (0, 1, 2, 2), (0, 1, 1, 2)):
            with self.subTest(wrong=wrong), self.assertRaises(InvalidLoops) as caught:
                Cloth([("a", ())] * 3 + [("a", wrong)], [])
            self.assertEqual(caught.exception.value, 3)

    def test_first_wrong_item_is_told(self):
        with self.assertRaises(InvalidLoops) as caught:
            Cloth([("a", ()), ("a", (0,)), ("A", ()), ("a", (9,)), None], [])
        self.assertEqual(caught.exception.value, 2)


class WrongFastTest(unittest.TestCase):
    def check(self, fast, index):
        with self.subTest(fast=fast):
            kept = copy.copy(fast)
            with self.assertRaises(InvalidFast) as caught:
                Cloth([("a", ()), ("a", (0,)), ("b", ())], fast)
            self.assertEqual(caught.exception.value, index)
            self.assertIs(type(fast), type(kept))

    def test_no_list(self):
        for wrong in NO_LISTS:
            self.check(wrong, -1)

    def test_no_numbers(self):
        for wrong in NO_INTEGERS:
            self.check([wrong], 0)
            self.check([2, wrong, 0], 1)

    def test_beyond_and_below_zero(self):
        for wrong in (3, 4, 10 ** 39, -1, -3, -10 ** 39):
            self.check([wrong], 0)
            self.check([2, 1, wrong, 0], 2)

    def test_there_twice(self):
        self.check([0, 0], 1)
        self.check([1, 0, 2, 1], 3)
        self.check([2, 1, 2, 1], 2)

    def test_first_wrong_item_is_told(self):
        self.check([1, 3, 1, None], 1)
        self.check([1, 1, 3, None], 1)
        self.check([True, 1], 0)
        self.check([1, True], 1)

    def test_none_are_left_in_an_empty_cloth(self):
        with self.assertRaises(InvalidFast) as caught:
            Cloth([], [0])
        self.assertEqual(caught.exception.value, 0)

    def test_loops_ahead_of_fast(self):
        for loops, index in ((None, -1), ([("a", ()), ("a", (1,))], 1)):
            for fast in (None, [7], [0, 0]):
                with self.assertRaises(InvalidLoops) as caught:
                    Cloth(loops, fast)
                self.assertEqual(caught.exception.value, index)

    def test_caught_as_run_error(self):
        for loops, fast in ((None, []), ([], None)):
            with self.assertRaises(RunError):
                Cloth(loops, fast)


class MethodsTest(unittest.TestCase):
    def test_children(self):
        cloth = some()
        told = [cloth.children(loop) for loop in range(len(cloth))]
        self.assertEqual(told, [[2, 3, 4], [3, 6], [4], [4], [], [], []])
        self.assertEqual(cloth.children(loop=1), [3, 6])

    def test_along(self):
        cloth = some()
        self.assertEqual(cloth.along("a"), [1, 3, 6])
        self.assertEqual(cloth.along(thread="b"), [0, 2, 5])
        self.assertEqual(cloth.along("cord"), [4])

    def test_along_texts_that_are_no_threads(self):
        cloth = some()
        for thread in ("c", "co", "cords", "", "A", "no name", "a" * 200, "0", "\n", "ab"):
            self.assertEqual(cloth.along(thread), [])

    def test_with_fast(self):
        cloth = some()
        self.assertEqual(cloth.with_fast(1), Cloth(LOOPS, [0, 1, 4, 6]))
        self.assertEqual(cloth.with_fast(loop=5).fast, [0, 4, 5, 6])
        for loop in (0, 4, 6):
            self.assertEqual(cloth.with_fast(loop), cloth)
        self.assertEqual(cloth, some())

    def test_without_fast(self):
        cloth = some()
        self.assertEqual(cloth.without_fast(4), Cloth(LOOPS, [0, 6]))
        self.assertEqual(cloth.without_fast(loop=0).fast, [4, 6])
        for loop in (1, 2, 3, 5):
            self.assertEqual(cloth.without_fast(loop), cloth)
        self.assertEqual(cloth, some())

    def test_there_and_back(self):
        cloth = some()
        for loop in range(len(cloth)):
            changed = cloth.with_fast(loop).without_fast(loop)
            self.assertEqual(changed.fast, [one for one in cloth.fast if one != loop])
            self.assertEqual(changed.loops, cloth.loops)

    def test_invalid_loop(self):
        for cloth in (some(), Cloth([], [])):
            for call in (cloth.children, cloth.with_fast, cloth.without_fast):
                for wrong in NO_INTEGERS + [-1, len(cloth), len(cloth) + 1, 10 ** 39, -10 ** 39]:
                    with self.subTest(wrong=wrong), self.assertRaises(InvalidLoop) as caught:
                        call(wrong)
                    self.assertIs(caught.exception.value, wrong)
        self.assertEqual(some().children(6), [])


class OperatorsTest(unittest.TestCase):
    def test_add(self):
        one = Cloth([("a", ()), ("b", (0,))], [1])
        other = Cloth([("c", ()), ("a", (0,)), ("b", (0, 1))], [2, 0])
        both = [("a", ()), ("b", (0,)), ("c", ()), ("a", (2,)), ("b", (2, 3))]
        self.assertEqual(one + other, Cloth(both, [1, 2, 4]))
        self.assertEqual((one + other).loops, both)
        self.assertEqual((one + other).fast, [1, 2, 4])
        self.assertEqual((other + one).loops, other.loops + [("a", ()), ("b", (3,))])
        self.assertEqual((other + one).fast, [0, 2, 4])
        self.assertEqual(one, Cloth([("a", ()), ("b", (0,))], [1]))
        self.assertEqual(other.fast, [0, 2])

    def test_add_empty_and_itself(self):
        cloth, empty = some(), Cloth([], [])
        self.assertEqual(cloth + empty, cloth)
        self.assertEqual(empty + cloth, cloth)
        self.assertEqual(empty + empty, empty)
        self.assertEqual(len(cloth + cloth), 14)
        self.assertEqual((cloth + cloth).fast, [0, 4, 6, 7, 11, 13])
        self.assertEqual((cloth + cloth).children(7), [9, 10, 11])
        self.assertEqual((cloth + cloth).children(0), [2, 3, 4])

    def test_add_other_values(self):
        for other in (None, 1, "a", [], [("a", ())], (), RunError(0)):
            with self.subTest(other=other):
                with self.assertRaises(TypeError):
                    some() + other
                with self.assertRaises(TypeError):
                    other + some()

    def test_len(self):
        for many in range(5):
            self.assertEqual(len(Cloth([("a", ())] * many, [])), many)

    def test_equal(self):
        self.assertTrue(some() == some())
        self.assertFalse(some() != some())
        self.assertTrue(Cloth(LOOPS, [0, 4, 6]) == Cloth(LOOPS, [6, 0, 4]))
        self.assertTrue(Cloth([], []) == Cloth([], []))

    def test_unequal(self):
        others = [
            Cloth([], []), Cloth(LOOPS, []), Cloth(LOOPS, [0, 4]), Cloth(LOOPS, [0, 4, 5]),
            Cloth(LOOPS[:-1] + [("b", (1,))], FAST), Cloth(LOOPS[:-1] + [("a", (0,))], FAST),
            Cloth(LOOPS + [("a", ())], FAST),
        ]
        for other in others:
            self.assertFalse(some() == other)
            self.assertTrue(some() != other)

    def test_beside_values_that_are_no_cloths(self):
        for other in (None, True, 7, "", LOOPS, FAST, (LOOPS, FAST), [], (), RunError(0)):
            self.assertFalse(some() == other)
            self.assertFalse(other == some())
            self.assertTrue(some() != other)
            self.assertFalse(Cloth([], []) == other)
            self.assertTrue(Cloth([], []) != other)


if __name__ == "__main__":
    unittest.main()
