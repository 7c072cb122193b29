"""Works: cloths that are made on a needle, row by row."""

from runsdown.checks import check_size, is_number, is_thread
from runsdown.cloths import Cloth
from runsdown.errors import InvalidRow, LeftOver, TooFew

MOST_IN_STITCH = 3

# Of each stitch that is a word: how many of the loops still to be worked it
# wants, how many of these it takes, and how many loops it puts in their place.
WORDS = {"pass": (1, 1, 1), "cross": (2, 0, 0), "chain": (1, 1, 1)}


def is_stitch(value):
    """Tell whether any value is a stitch of a work."""
    if isinstance(value, str):
        return value in WORDS
    if not isinstance(value, tuple) or len(value) != 2:
        return False
    return value != (0, 0) and all([is_number(part, MOST_IN_STITCH + 1) for part in value])


def is_row(value):
    """Tell whether any value is a row of a work."""
    if not isinstance(value, tuple) or len(value) != 2:
        return False
    thread, stitches = value
    if not is_thread(thread) or not isinstance(stitches, tuple):
        return False
    return all([is_stitch(stitch) for stitch in stitches])


def check_rows(rows):
    """Raise InvalidRow unless this is a list of rows of a work."""
    if not isinstance(rows, list):
        raise InvalidRow(-1)
    for index, row in enumerate(rows):
        if not is_row(row):
            raise InvalidRow(index)


def counts_of(stitch):
    """Return how many loops a stitch wants, takes and puts on the needle."""
    if isinstance(stitch, str):
        return WORDS[stitch]
    taken, put = stitch
    return taken, taken, put


def goes_on(stitches, at):
    """Tell whether a stitch is a chain stitch directly behind another one."""
    return at > 0 and stitches[at] == "chain" and stitches[at - 1] == "chain"


def count_behind(index, many, stitches):
    """Return how many loops the needle has behind a row.

    Many is how many it has ahead of the row. Raise TooFew or LeftOver if
    the stitches, those of the row with this index, do not work just these.
    """
    left, behind = many, 0
    for at, stitch in enumerate(stitches):
        wanted, taken, put = counts_of(stitch)
        if wanted > left:
            raise TooFew((index, at))
        left = left - taken
        # A chain stitch that goes on puts its loop for one that leaves.
        if not goes_on(stitches, at):
            behind = behind + put
    if left > 0:
        raise LeftOver((index, left))
    return behind


def check_counts(width, rows):
    """Raise TooFew or LeftOver unless each row works the whole needle."""
    many = width
    for index, (_, stitches) in enumerate(rows):
        many = count_behind(index, many, stitches)


def work_row(held, first, stitches):
    """Work stitches that fit the loops held by a needle.

    Return the loops that it holds behind them, the list of the parents of
    each new loop, which are numbered from first on, and the list of the
    loops that became fast.
    """
    waiting, done, drawn, tied = list(held), [], [], []
    for at, stitch in enumerate(stitches):
        if stitch == "cross":
            waiting[:2] = [waiting[1], waiting[0]]
        elif stitch == "pass":
            done.append(waiting.pop(0))
        else:
            _, taken, put = counts_of(stitch)
            through = waiting[:taken]
            del waiting[:taken]
            if goes_on(stitches, at):
                through.append(done.pop())
            if put == 0:
                tied.extend(through)
            for _ in range(put):
                done.append(first + len(drawn))
                # Crossed loops do not lie on the needle by their numbers.
                drawn.append(tuple(sorted(through)))
    return done, drawn, tied


def knit(thread, width, rows):
    """Return the loops of a work, those tied off, and those on the needle."""
    check_size(width)
    check_rows(rows)
    # Counting first: a width that no row can work makes no loops at all.
    check_counts(width, rows)
    loops, fast, held = [(thread, ())] * width, [], list(range(width))
    for name, stitches in rows:
        held, drawn, tied = work_row(held, len(loops), stitches)
        loops.extend([(name, parents) for parents in drawn])
        fast.extend(tied)
    return loops, fast, held


def work(thread, width, rows, *, bound=True):
    """Return the cloth of a work; if bound, the loops on the needle are fast."""
    loops, fast, held = knit(thread, width, rows)
    if bound:
        fast.extend(held)
    return Cloth(loops, fast)


def needle(thread, width, rows):
    """Return the list of the loops on the needle behind a work, from the left on."""
    return knit(thread, width, rows)[2]
