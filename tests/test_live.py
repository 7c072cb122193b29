"""Promises [2], [5], [6], [20], [33]: live cloths."""

import copy
import random
import unittest

from runsdown.cloths import Cloth
from runsdown.errors import (
    InvalidLoop, InvalidRow, InvalidSize, LeftOver, NothingToUndo, RunError, TooFew, WouldRun)
from runsdown.live import GuardedCloth, LiveCloth
from runsdown.needles import needle, work
from runsdown.runs import run, standing, taken
from tests.cases import Case
from tests.models import all_run
from tests.values import BELOW_ONE, NO_INTEGERS, NO_THREADS, NO_TUPLES

ROW = ("b", ((1, 2), (1, 1)))


class Model:
    """A live cloth, slowly, by the words of [33] and [6]."""

    def __init__(self, thread, width, kept=()):
        self.loops, self.fast, self.held, self.lost = [(thread, ())] * width, set(), list(range(width)), set()
        self.kept, self.past = kept, []

    def keep(self, word):
        self.past.append((word, copy.deepcopy((self.loops, self.fast, self.held, self.lost))))

    def slip(self, word, cuts, fast):
        ran = all_run(Cloth(self.loops, sorted(fast | set(self.held))), self.lost | set(cuts))
        new = [loop for loop in ran if loop not in self.lost]
        for loop in new:
            if self.loops[loop][0] in self.kept:
                raise WouldRun(loop)
        self.keep(word)
        self.lost, self.fast = set(ran), fast - set(ran)
        self.held = [loop for loop in self.held if loop not in ran]
        return new

    def row(self, thread, stitches):
        waiting, done, new, fast, ahead = list(self.held), [], [], set(self.fast), None
        first = len(self.loops)
        for at, stitch in enumerate(stitches):
            wants = {"pass": 1, "cross": 2, "chain": 1}.get(stitch, stitch[0])
            if len(waiting) < wants:
                raise TooFew((0, at))
            if stitch == "cross":
                waiting[0], waiting[1] = waiting[1], waiting[0]
            elif stitch == "pass":
                done.append(waiting.pop(0))
            else:
                taken_ones = [waiting.pop(0) for _ in range(wants)]
                if stitch == "chain" and ahead == "chain":
                    taken_ones.append(done.pop())
                many = 1 if stitch == "chain" else stitch[1]
                if many == 0:
                    fast |= set(taken_ones)
                for _ in range(many):
                    done.append(first + len(new))
                    new.append((thread, tuple(sorted(taken_ones))))
            ahead = stitch
        if waiting:
            raise LeftOver((0, len(waiting)))
        self.keep("row")
        self.loops, self.held, self.fast = self.loops + new, done, fast
        return list(range(first, len(self.loops)))

    def bind(self):
        self.keep("bind")
        bound = sorted(self.held)
        self.fast, self.held = self.fast | set(bound), []
        return bound

    def cut(self, loop):
        if loop not in range(len(self.loops)) or loop in self.lost:
            raise InvalidLoop(loop)
        return self.slip("cut", [loop], self.fast)

    def pin(self, loop):
        if loop not in range(len(self.loops)) or loop in self.lost:
            raise InvalidLoop(loop)
        return self.slip("pin", [], self.fast | {loop})

    def unpin(self, loop):
        if loop not in self.fast:
            raise InvalidLoop(loop)
        return self.slip("unpin", [], self.fast - {loop})

    def undo(self):
        if not self.past:
            raise NothingToUndo(0)
        word, (self.loops, self.fast, self.held, self.lost) = self.past.pop()
        return word

    def twin(self):
        return copy.deepcopy(self)

    def state(self):
        return Cloth(self.loops, sorted(self.fast)), self.held, sorted(self.lost), len(self.loops) - len(self.lost)


def state(live):
    return live.cloth, live.needle, live.gone, len(live)


def drawn_row(rng, many):
    """Stitches that mostly work just so many loops."""
    stitches, left = [], many + rng.choice((0,) * 12 + (1, -1))
    while left > 0 or rng.randrange(5) == 0:
        stitch = rng.choice(
            ["pass", "cross", "chain", "chain", "chain"] + [(1, 1), (1, 2), (2, 1), (0, 1), (3, 2), (1, 0)])
        wants = {"pass": 1, "cross": 0, "chain": 1}.get(stitch, stitch[0])
        if wants <= left and not (left > 24 and wants == 0):
            stitches.append(stitch)
            left -= wants
    return tuple(stitches)


def drawn_deed(rng, model):
    """The word and the arguments of a deed, right or wrong."""
    word = rng.choice(["row"] * 4 + ["cut", "cut", "pin", "pin", "unpin", "undo"] + ["bind"] * (rng.randrange(4) == 0))
    if word == "row":
        return word, (rng.choice(("a", "b", "cord")), drawn_row(rng, len(model.held)))
    if word in ("bind", "undo"):
        return word, ()
    several = list(range(-1, len(model.loops) + 1)) + sorted(model.fast) * 3 + model.held
    return word, (rng.choice(several),)


def outcome(one, word, arguments):
    """What a deed returns, or its error."""
    try:
        return getattr(one, word)(*arguments)
    except RunError as error:
        return type(error), error.value


class LiveClothTest(Case):
    def test_ordinary(self):
        live = LiveCloth("a", 2)
        self.assertEqual(state(live), (Cloth([("a", ()), ("a", ())], []), [0, 1], [], 2))
        self.assertEqual(live.row(*ROW), [2, 3, 4])
        loose = work("a", 2, [ROW], bound=False)
        self.assertEqual(state(live), (loose, [2, 3, 4], [], 5))
        self.assertEqual(live.cut(4), [1, 4])
        self.assertEqual(state(live), (loose, [2, 3], [1, 4], 3))
        self.assertEqual(live.row("c", ("cross", (1, 1), "pass")), [5])
        self.assertEqual(live.needle, [5, 2])
        self.assertEqual(live.bind(), [2, 5])
        self.assertEqual((live.needle, live.cloth.fast), ([], [2, 5]))
        # Without a child that stands a loop runs as soon as it is not fast.
        self.assertEqual(live.unpin(5), [3, 5])
        self.assertEqual((live.gone, live.cloth.fast, len(live)), ([1, 3, 4, 5], [2], 2))
        self.assertEqual(live.pin(0), [])
        self.assertEqual(live.unpin(2), [2])
        self.assertEqual((live.gone, live.cloth.fast), ([1, 2, 3, 4, 5], [0]))
        self.assertEqual(live.cut(0), [0])
        self.assertEqual(state(live), (Cloth(live.cloth.loops, []), [], [0, 1, 2, 3, 4, 5], 0))
        words = [live.undo() for _ in range(8)]
        self.assertEqual(words, ["cut", "unpin", "pin", "unpin", "bind", "row", "cut", "row"])
        self.assertEqual(state(live), state(LiveCloth("a", 2)))
        self.wrong(NothingToUndo, 0, live.undo)

    def test_on_the_needle_a_loop_stands(self):
        live = LiveCloth("a", 2)
        self.assertEqual(live.pin(0), [])
        self.assertEqual((live.cloth.fast, live.needle), ([0], [0, 1]))
        self.assertEqual(live.unpin(0), [])
        self.assertEqual((live.cloth.fast, live.needle, live.gone), ([], [0, 1], []))
        # The needle alone makes none fast.
        self.wrong(InvalidLoop, 1, live.unpin, 1)
        self.assertEqual(live.cut(0), [0])
        self.assertEqual((live.needle, live.gone), ([1], [0]))

    def test_gone_for_good(self):
        live = LiveCloth("a", 2)
        live.row(*ROW)
        live.cut(4)
        for deed in (live.cut, live.pin, live.unpin):
            for loop in (1, 4):
                self.wrong(InvalidLoop, loop, deed, loop)
        # A child that is gone holds nothing, and a row works what is left.
        self.wrong(LeftOver, (0, 1), live.row, "b", ((1, 1),))
        self.assertEqual(live.row("b", ((2, 1),)), [5])
        self.assertEqual(live.cloth.loops[5], ("b", (2, 3)))
        self.assertEqual(live.cut(0), [0])

    def test_knotted_pinned_and_bound(self):
        live = LiveCloth("a", 3)
        self.assertEqual(live.row("b", ((1, 0), (1, 1), "pass")), [3])
        self.assertEqual((live.cloth.fast, live.needle), ([0], [3, 2]))
        live.pin(1)
        live.pin(3)
        self.assertEqual(live.cloth.fast, [0, 1, 3])
        self.assertEqual(live.bind(), [2, 3])
        self.assertEqual(live.cloth.fast, [0, 1, 2, 3])
        self.assertEqual(live.cut(3), [3])
        self.assertEqual(live.cloth.fast, [0, 1, 2])
        self.assertEqual(live.bind(), [])
        self.assertEqual(live.row("b", ((0, 2),)), [4, 5])
        self.assertEqual(live.row("b", ((2, 0),)), [])
        self.assertEqual(live.cloth.fast, [0, 1, 2, 4, 5])

    def test_long_sequences_by_the_words(self):
        rng = random.Random(141)
        kinds = {}
        for _ in range(60):
            width = rng.randint(1, 6)
            live, model = LiveCloth("a", width), Model("a", width)
            for _ in range(70):
                word, arguments = drawn_deed(rng, model)
                told = outcome(live, word, arguments)
                self.assertEqual(told, outcome(model, word, arguments))
                self.assertEqual(state(live), model.state())
                kind = (word, told[0] if isinstance(told, tuple) else bool(told))
                kinds[kind] = kinds.get(kind, 0) + 1
            back = []
            while model.past:
                back.append(model.undo())
                self.assertEqual(live.undo(), back[-1])
                self.assertEqual(state(live), model.state())
            self.wrong(NothingToUndo, 0, live.undo)
            self.assertEqual(state(live), state(LiveCloth("a", width)))
        wanted = {
            ("row", True), ("row", False), ("row", TooFew), ("row", LeftOver), ("bind", True), ("bind", False),
            ("cut", True), ("cut", InvalidLoop), ("pin", False), ("pin", InvalidLoop), ("unpin", True),
            ("unpin", False), ("unpin", InvalidLoop), ("undo", True), ("undo", NothingToUndo)}
        self.assertEqual(set(kinds), wanted)

    def test_many_deeds(self):
        live = LiveCloth("a", 4)
        for at in range(150):
            live.pin(at % 4)
            live.unpin(at % 4)
        self.assertEqual([live.undo() for _ in range(300)], ["unpin", "pin"] * 150)
        self.wrong(NothingToUndo, 0, live.undo)

    def test_against_run_and_taken(self):
        rng = random.Random(142)
        for _ in range(60):
            live = LiveCloth("a", rng.randint(2, 5))
            rows = []
            for _ in range(rng.randint(1, 4)):
                stitches = tuple([(1, rng.randint(1, 2)) for _ in live.needle])
                rows.append(("b", stitches))
                live.row(*rows[-1])
            width = len([thread for thread, _ in live.cloth.loops if thread == "a"])
            self.assertEqual(live.needle, needle("a", width, rows))
            self.assertEqual(live.cloth, work("a", width, rows, bound=False))
            live.bind()
            cloth, cuts = work("a", width, rows), []
            self.assertEqual(live.cloth, cloth)
            while standing(cloth, cuts):
                loop = rng.choice(standing(cloth, cuts))
                if not cuts:
                    self.assertEqual(taken(cloth, loop), live.twin().cut(loop))
                live.cut(loop)
                cuts.append(loop)
                self.assertEqual(live.gone, run(cloth, cuts))

    def test_undo_of_deeds_that_changed_nothing(self):
        live = LiveCloth("a", 1)
        live.pin(0)
        live.pin(0)
        live.row("b", ("pass",))
        live.bind()
        live.bind()
        live.row("b", ())
        self.assertEqual([live.undo() for _ in range(6)], ["row", "bind", "bind", "row", "pin", "pin"])
        self.assertEqual(live, LiveCloth("a", 1))

    def test_errors_are_no_deeds(self):
        live = LiveCloth("a", 2)
        live.pin(1)
        for call, arguments in (
                (live.cut, (2,)), (live.pin, (None,)), (live.unpin, (0,)), (live.row, ("b", ((1, 1),))),
                (live.row, ("b", ((3, 1),))), (live.row, ("B", ()))):
            with self.assertRaises(RunError):
                call(*arguments)
        self.assertEqual(state(live), (Cloth([("a", ()), ("a", ())], [1]), [0, 1], [], 2))
        self.assertEqual(live.undo(), "pin")
        self.wrong(NothingToUndo, 0, live.undo)
        self.assertEqual(live.row("b", ((2, 1),)), [2])


class TwinTest(Case):
    def test_twins_go_on_by_themselves(self):
        rng = random.Random(143)
        for _ in range(30):
            pairs = [(LiveCloth("a", 3), Model("a", 3))]
            for step in range(80):
                live, model = rng.choice(pairs)
                word, arguments = drawn_deed(rng, model)
                self.assertEqual(outcome(live, word, arguments), outcome(model, word, arguments))
                if step % 20 == 10:
                    pairs.append((live.twin(), model.twin()))
                    self.assertIs(type(pairs[-1][0]), LiveCloth)
                    self.assertTrue(live == pairs[-1][0])
                for one, other in pairs:
                    self.assertEqual(state(one), other.state())
            for live, model in pairs:
                while model.past:
                    self.assertEqual(live.undo(), model.undo())
                    self.assertEqual(state(live), model.state())
                self.wrong(NothingToUndo, 0, live.undo)

    def test_equal(self):
        one, other = LiveCloth("a", 2), LiveCloth("a", 2)
        self.assertTrue(one == other)
        self.assertFalse(one != other)
        # What is counts, not what was done.
        one.cut(0)
        self.assertFalse(one == other)
        one.undo()
        self.assertTrue(one == other)
        one.row("b", ("cross", "pass", "pass"))
        self.assertFalse(one == other)
        one.row("b", ("cross", "pass", "pass"))
        self.assertTrue(one == other)
        one.pin(0)
        self.assertFalse(one == other)
        other.pin(1)
        self.assertFalse(one == other)
        other.pin(0)
        one.pin(1)
        self.assertTrue(one == other)
        self.assertFalse(one == LiveCloth("b", 2))
        self.assertFalse(one == LiveCloth("a", 3))
        for value in (None, 0, "a", [], one.cloth):
            self.assertFalse(one == value)
            self.assertFalse(value == one)

    def test_gone_counts(self):
        one, other = LiveCloth("a", 1), LiveCloth("a", 1)
        one.row("b", ((1, 1),))
        other.row("b", ((1, 1),))
        one.bind()
        other.bind()
        one.unpin(1)
        other.pin(0)
        other.unpin(1)
        other.unpin(0)
        self.assertTrue(one == other)
        self.assertEqual((one.gone, one.cloth.fast), ([0, 1], []))
        other.undo()
        self.assertFalse(one == other)


class GuardedClothTest(Case):
    def test_ordinary(self):
        live = GuardedCloth("a", 2, kept=("a",))
        self.assertTrue(isinstance(live, LiveCloth))
        self.assertEqual(live.kept, ("a",))
        live.row(*ROW)
        self.wrong(WouldRun, 1, live.cut, 4)
        self.wrong(WouldRun, 0, live.cut, 0)
        self.assertEqual(live.cut(2), [2])
        self.wrong(WouldRun, 0, live.cut, 3)
        self.assertEqual(live.pin(0), [])
        self.assertEqual(live.cut(3), [3])
        self.wrong(WouldRun, 0, live.unpin, 0)
        self.assertEqual(live.undo(), "cut")
        self.assertEqual(live.unpin(0), [])
        self.assertEqual((live.needle, live.gone, live.cloth.fast, len(live)), ([3, 4], [2], [], 4))
        self.assertEqual([live.undo() for _ in range(4)], ["unpin", "pin", "cut", "row"])
        self.wrong(NothingToUndo, 0, live.undo)

    def test_the_least_loop_of_a_kept_thread(self):
        live = GuardedCloth("a", 1, kept=("c", "b"))
        live.row("b", ((1, 1),))
        live.row("c", ((1, 1),))
        live.row("d", ((1, 1),))
        self.wrong(WouldRun, 1, live.cut, 3)
        self.wrong(WouldRun, 1, live.cut, 2)
        live.pin(1)
        self.wrong(WouldRun, 2, live.cut, 3)
        self.assertEqual(live.cut(0), [0])

    def test_behind_all_other_errors(self):
        live = GuardedCloth("a", 2, kept=("a", "b"))
        live.row(*ROW)
        for deed in (live.cut, live.pin, live.unpin):
            self.wrong(InvalidLoop, 5, deed, 5)
        self.wrong(InvalidLoop, 4, live.unpin, 4)
        self.wrong(InvalidRow, 0, live.row, "b", None)
        self.wrong(TooFew, (0, 1), live.row, "b", ((3, 1), (1, 1)))
        self.wrong(WouldRun, 2, live.cut, 2)

    def test_never_of_undo(self):
        live = GuardedCloth("a", 1, kept=("a", "b"))
        live.row("b", ((1, 1),))
        live.bind()
        self.wrong(WouldRun, 0, live.unpin, 1)
        self.assertEqual([live.undo(), live.undo()], ["bind", "row"])
        self.assertEqual(state(live), state(LiveCloth("a", 1)))

    def test_long_sequences_by_the_words(self):
        rng = random.Random(144)
        refused = 0
        for _ in range(60):
            # None, some, all threads, and some that are nowhere.
            kept = rng.choice(((), ("a",), ("b",), ("a", "b", "cord"), ("nowhere",), ("cord", "zz", "b"), ("b", "b")))
            width = rng.randint(1, 6)
            live, model = GuardedCloth("a", width, kept=kept), Model("a", width, kept)
            for step in range(60):
                word, arguments = drawn_deed(rng, model)
                told = outcome(live, word, arguments)
                self.assertEqual(told, outcome(model, word, arguments))
                self.assertEqual(state(live), model.state())
                refused += isinstance(told, tuple) and told[0] is WouldRun
                if step == 30:
                    other = live.twin()
                    self.assertIs(type(other), GuardedCloth)
                    self.assertEqual(other.kept, kept)
                    self.assertTrue(other == live)
                    live = other
        self.assertGreater(refused, 100)

    def test_with_none_kept_as_a_live_cloth(self):
        rng = random.Random(145)
        live, guarded, model = LiveCloth("a", 4), GuardedCloth("a", 4, kept=()), Model("a", 4)
        for _ in range(100):
            word, arguments = drawn_deed(rng, model)
            told = outcome(model, word, arguments)
            self.assertEqual([outcome(live, word, arguments), outcome(guarded, word, arguments)], [told, told])
            self.assertEqual(state(live), state(guarded))

    def test_equal(self):
        live, one, other = LiveCloth("a", 2), GuardedCloth("a", 2, kept=()), GuardedCloth("a", 2, kept=("a",))
        for left, right in ((live, one), (one, live), (one, other), (other, one), (live, other)):
            self.assertFalse(left == right)
            self.assertTrue(left != right)
        self.assertTrue(one == GuardedCloth("a", 2, kept=()))
        self.assertTrue(other == other.twin())
        self.assertFalse(other == GuardedCloth("a", 2, kept=("a", "b")))
        self.assertFalse(GuardedCloth("a", 2, kept=("b", "a")) == GuardedCloth("a", 2, kept=("a", "b")))
        self.assertFalse(other == GuardedCloth("a", 3, kept=("a",)))
        self.assertFalse(live.__eq__(one))
        other.pin(0)
        self.assertFalse(other == GuardedCloth("a", 2, kept=("a",)))

    def test_twins_go_on_by_themselves(self):
        live = GuardedCloth("a", 2, kept=("b",))
        live.row(*ROW)
        other = live.twin()
        other.undo()
        self.assertEqual((live.needle, other.needle), ([2, 3, 4], [0, 1]))
        self.assertEqual(other.cut(0), [0])
        self.wrong(WouldRun, 2, live.cut, 2)
        self.assertEqual([live.undo(), other.undo()], ["row", "cut"])
        self.assertTrue(live == other)


class ErrorsTest(Case):
    def test_width(self):
        for wrong in NO_INTEGERS + BELOW_ONE:
            self.wrong(InvalidSize, wrong, LiveCloth, "a", wrong)
            self.wrong(InvalidSize, wrong, lambda width: GuardedCloth("a", width, kept=("a",)), wrong)
        self.assertEqual(len(LiveCloth("a", 120)), 120)

    def test_loops(self):
        for live in (LiveCloth("a", 2), GuardedCloth("a", 2, kept=("b",))):
            live.pin(0)
            live.cut(1)
            for wrong in NO_INTEGERS + [-1, 1, 2, 10 ** 39, -10 ** 39]:
                for deed in (live.cut, live.pin, live.unpin):
                    self.wrong(InvalidLoop, wrong, deed, wrong)
            self.assertEqual((live.unpin(0), live.needle), ([], [0]))
            self.wrong(InvalidLoop, 0, live.unpin, 0)

    def test_rows(self):
        for live in (LiveCloth("a", 2), GuardedCloth("a", 2, kept=("a",))):
            for wrong in NO_THREADS:
                self.wrong(InvalidRow, 0, live.row, wrong, ((1, 1), (1, 1)))
            wrongs = [((1, 1), (1, 1), None), ((0, 0), (2, 1)), ((2, 4),), ((4, 1),), ((True, 1), (1, 1))]
            wrongs += [("Pass", "pass"), ([1, 1], (1, 1)), ((1, 1, 1), (1, 1)), ((-1, 1), (2, 1))]
            for wrong in NO_TUPLES + wrongs:
                self.wrong(InvalidRow, 0, live.row, "b", wrong)
            # By its form first, then as the work goes.
            self.wrong(InvalidRow, 0, live.row, "b", ((3, 1), None))
            self.wrong(TooFew, (0, 0), live.row, "b", ((3, 1),))
            self.wrong(TooFew, (0, 2), live.row, "b", ((1, 1), (1, 1), "pass"))
            self.wrong(TooFew, (0, 1), live.row, "b", ((1, 1), "cross", (1, 1)))
            self.wrong(LeftOver, (0, 2), live.row, "b", ())
            self.wrong(LeftOver, (0, 1), live.row, "b", ("chain",))
            self.assertEqual((live.needle, len(live)), ([0, 1], 2))
            self.wrong(NothingToUndo, 0, live.undo)

    def test_by_name_and_new_lists(self):
        live = GuardedCloth(kept=("b",), width=2, thread="a")
        self.assertEqual(live.row(stitches=((1, 2), (1, 1)), thread="b"), [2, 3, 4])
        self.assertEqual([live.pin(loop=4), live.unpin(loop=4), live.pin(loop=0), live.pin(loop=1)], [[]] * 4)
        self.wrong(WouldRun, 2, lambda: live.cut(loop=2))
        for name in ("needle", "gone"):
            getattr(live, name).append(7)
        live.cloth.loops.append(7)
        self.assertEqual((live.needle, live.gone, len(live.cloth)), ([2, 3, 4], [], 5))
        bound = live.bind()
        bound.append(7)
        self.assertEqual((live.cloth.fast, live.needle), ([0, 1, 2, 3, 4], []))
        self.assertEqual(LiveCloth(width=1, thread="b").cut(loop=0), [0])
        with self.assertRaises(TypeError):
            GuardedCloth("a", 2, ("b",))


if __name__ == "__main__":
    unittest.main()
