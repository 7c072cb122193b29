"""Live cloths: cloths in work, whose loops run as deeds are done."""

from runsdown.checks import check_size, is_number
from runsdown.cloths import Cloth
from runsdown.errors import InvalidLoop, InvalidRow, NothingToUndo, WouldRun
from runsdown.needles import count_behind, is_row, work_row
from runsdown.runs import run


def joined(numbers, more):
    """Return the ascending list of the numbers that are in one of two lists."""
    return sorted(numbers + [number for number in more if number not in numbers])


def without(numbers, others):
    """Return the list of the numbers that are not among others."""
    return [number for number in numbers if number not in others]


class LiveCloth:
    """A cloth in work: its loops, those on the needle, and those that are gone."""

    def __init__(self, thread, width):
        check_size(width)
        # No deed changes one of these lists: it puts another one in its place,
        # so that the past and twins may hold them, too.
        self._loops = [(thread, ())] * width
        self._tied = []
        self._held = list(range(width))
        self._lost = []
        # For each deed its word, and what the lists were ahead of it.
        self._past = []
        # None tells this cloth from a guarded one, even if that keeps no thread.
        self._kept = None

    @property
    def cloth(self):
        """The cloth of all loops, gone ones too; the needle alone makes none fast."""
        return Cloth(self._loops, self._tied)

    @property
    def needle(self):
        """The list of the loops on the needle, from the left on."""
        return list(self._held)

    @property
    def gone(self):
        """The ascending list of the gone loops."""
        return list(self._lost)

    def _check(self, loop):
        """Raise InvalidLoop unless this is a loop that is not gone."""
        if not is_number(loop, len(self._loops)) or loop in self._lost:
            raise InvalidLoop(loop)

    def _allow(self, loops):
        """Raise what forbids that loops run; here nothing does."""

    def _begin(self, word):
        """Keep for undo what is ahead of a deed."""
        self._past = self._past + [(word, self._loops, self._tied, self._held, self._lost)]

    def _settle(self, word, cuts, tied):
        """Do a deed that cuts some loops and leaves some fast; return what runs."""
        # While it is on the needle a loop is as a fast one.
        lost = run(Cloth(self._loops, joined(tied, self._held)), self._lost + cuts)
        ran = without(lost, self._lost)
        self._allow(ran)
        self._begin(word)
        self._tied, self._held, self._lost = without(tied, ran), without(self._held, ran), lost
        return ran

    def row(self, thread, stitches):
        """Work a row and return the list of its new loops."""
        if not is_row((thread, stitches)):
            raise InvalidRow(0)
        count_behind(0, len(self._held), stitches)
        self._begin("row")
        first = len(self._loops)
        self._held, drawn, tied = work_row(self._held, first, stitches)
        self._loops = self._loops + [(thread, parents) for parents in drawn]
        self._tied = joined(self._tied, tied)
        return list(range(first, len(self._loops)))

    def bind(self):
        """Make the loops on the needle fast, take them off it and return them."""
        bound = sorted(self._held)
        self._begin("bind")
        self._tied, self._held = joined(self._tied, bound), []
        return bound

    def cut(self, loop):
        """Cut a loop and return the list of the loops that run by that."""
        self._check(loop)
        return self._settle("cut", [loop], self._tied)

    def pin(self, loop):
        """Make a loop fast and return the list of the loops that run by that."""
        self._check(loop)
        return self._settle("pin", [], joined(self._tied, [loop]))

    def unpin(self, loop):
        """Make a loop not fast and return the list of the loops that run by that."""
        self._check(loop)
        if loop not in self._tied:
            raise InvalidLoop(loop)
        return self._settle("unpin", [], without(self._tied, [loop]))

    def undo(self):
        """Take back the last deed that was not taken back, and return its word."""
        if not self._past:
            raise NothingToUndo(0)
        word, self._loops, self._tied, self._held, self._lost = self._past[-1]
        self._past = self._past[:-1]
        return word

    def _follow(self, other):
        """Become as another live cloth is, with its past."""
        self._loops, self._tied = other._loops, other._tied
        self._held, self._lost = other._held, other._lost
        self._past = other._past

    def twin(self):
        """Return an independent live cloth that is equal and can undo the same deeds."""
        other = LiveCloth("a", 1)
        other._follow(self)
        return other

    def __len__(self):
        return len(without(list(range(len(self._loops))), self._lost))

    def __eq__(self, other):
        return (
            isinstance(other, LiveCloth) and self._kept == other._kept
            and self._loops == other._loops and self._tied == other._tied
            and self._held == other._held and self._lost == other._lost)


class GuardedCloth(LiveCloth):
    """A live cloth in which no loop of some threads runs, but by an undo."""

    def __init__(self, thread, width, *, kept):
        super().__init__(thread, width)
        self._kept = kept

    @property
    def kept(self):
        """The tuple of the names of the threads that are kept."""
        return self._kept

    def _allow(self, loops):
        """Raise WouldRun if one of these loops is of a thread that is kept."""
        for loop in loops:
            if self._loops[loop][0] in self._kept:
                raise WouldRun(loop)

    def twin(self):
        """Return an independent guarded cloth that is equal and can undo the same deeds."""
        other = GuardedCloth("a", 1, kept=self._kept)
        other._follow(self)
        return other

    def __eq__(self, other):
        return (
            isinstance(other, GuardedCloth) and self._kept == other._kept
            and self._loops == other._loops and self._tied == other._tied
            and self._held == other._held and self._lost == other._lost)
