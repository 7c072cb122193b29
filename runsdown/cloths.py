"""Cloths: loops, each drawn through earlier ones."""

from runsdown.checks import check_loop, is_number, is_thread, wrong_number
from runsdown.errors import InvalidFast, InvalidLoops


def is_parents(value, many):
    """Tell whether any value is an ascending tuple of numbers below many."""
    if not isinstance(value, tuple):
        return False
    if not all([is_number(parent, many) for parent in value]):
        return False
    return all([one < other for one, other in zip(value, value[1:])])


def is_loop(value, number):
    """Tell whether any value is a loop that may have this number."""
    if not isinstance(value, tuple) or len(value) != 2:
        return False
    thread, parents = value
    return is_thread(thread) and is_parents(parents, number)


def check_loops(loops):
    """Raise InvalidLoops unless this is a list of loops of a cloth."""
    if not isinstance(loops, list):
        raise InvalidLoops(-1)
    for number, loop in enumerate(loops):
        if not is_loop(loop, number):
            raise InvalidLoops(number)


def check_fast(fast, many):
    """Raise InvalidFast unless this is a list of some of many loops."""
    index = wrong_number(fast, many)
    if index is not None:
        raise InvalidFast(index)


def raised(numbers, many):
    """Return the tuple of numbers, each greater by many."""
    return tuple([number + many for number in numbers])


class Cloth:
    """Loops, each with its thread and its parents; some of them are fast."""

    def __init__(self, loops, fast):
        check_loops(loops)
        check_fast(fast, len(loops))
        self._loops = list(loops)
        self._fast = sorted(fast)

    @property
    def loops(self):
        """The list of the loops, tuples (thread, parents)."""
        return list(self._loops)

    @property
    def fast(self):
        """The ascending list of the fast loops."""
        return list(self._fast)

    @property
    def threads(self):
        """The ascending list of the names of the threads."""
        return sorted({thread for thread, _ in self._loops})

    def children(self, loop):
        """Return the list of the loops that are drawn through this one."""
        check_loop(loop, len(self._loops))
        return [child for child, (_, parents) in enumerate(self._loops) if loop in parents]

    def along(self, thread):
        """Return the list of the loops of a thread."""
        return [loop for loop, (name, _) in enumerate(self._loops) if name == thread]

    def with_fast(self, loop):
        """Return the cloth in which this loop is fast."""
        check_loop(loop, len(self._loops))
        return Cloth(self._loops, [one for one in self._fast if one != loop] + [loop])

    def without_fast(self, loop):
        """Return the cloth in which this loop is not fast."""
        check_loop(loop, len(self._loops))
        return Cloth(self._loops, [one for one in self._fast if one != loop])

    def __add__(self, other):
        if not isinstance(other, Cloth):
            return NotImplemented
        many = len(self._loops)
        loops = [(thread, raised(parents, many)) for thread, parents in other._loops]
        return Cloth(self._loops + loops, self._fast + list(raised(other._fast, many)))

    def __len__(self):
        return len(self._loops)

    def __eq__(self, other):
        return isinstance(other, Cloth) and self._loops == other._loops and self._fast == other._fast
