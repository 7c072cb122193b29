"""Slow models of the document's words, and cloths and charts to hold them against."""

import itertools
import random

from runsdown.charts import Chart
from runsdown.cloths import Cloth


def lots(many):
    """All ascending lists of numbers below many."""
    return [[number for number in range(many) if mask >> number & 1] for mask in range(1 << many)]


def all_cloths(most):
    """All cloths of at most so many loops, of one thread."""
    for many in range(most + 1):
        for parents in itertools.product(*[lots(number) for number in range(many)]):
            for fast in lots(many):
                yield Cloth([("a", tuple(one)) for one in parents], fast)


def drawn_cloths(seed, many, least, most):
    """So many drawn cloths of least to most loops."""
    rng = random.Random(seed)
    for _ in range(many):
        size, parents, held = rng.randint(least, most), rng.randint(1, 3), rng.choice((1, 2, 4))
        loops = []
        for number in range(size):
            taken = rng.sample(range(number), min(number, rng.randint(0, parents)))
            loops.append((rng.choice("ab"), tuple(sorted(taken))))
        late = [number for number in range(size) if rng.randrange(held + 1) == 0 or number == size - 1]
        fast = late if rng.randrange(4) else rng.sample(range(size), rng.randint(0, size))
        yield Cloth(loops, fast)


def drawn_lot(rng, many):
    """A list of numbers below many, in any sequence."""
    return rng.sample(range(many), rng.randint(0, many))


def ways(cloth, cuts, loop):
    """All ways up from a loop, by the words of [5]."""
    if loop in cuts:
        return []
    found = [[loop]] if loop in cloth.fast else []
    for child in cloth.children(loop):
        found.extend([[loop] + way for way in ways(cloth, cuts, child)])
    return found


def runner(cloth):
    """What tells the loops that have run behind cuts, by the first sentence of [5]."""
    kin, fast = [cloth.children(loop) for loop in range(len(cloth))], cloth.fast

    def ran(cuts):
        stands = {}
        for loop in reversed(range(len(kin))):
            stands[loop] = loop not in cuts and (loop in fast or any([stands[child] for child in kin[loop]]))
        return [loop for loop in range(len(kin)) if not stands[loop]]

    return ran


def all_run(cloth, cuts):
    """The loops that have run behind cuts."""
    return runner(cloth)(cuts)


def meet(one, other):
    """The loops that two ways have in common."""
    return sorted(set(one) & set(other))


def drawn_stitches(rng, count, most):
    """Stitches that take count loops, and draw at most so many."""
    while True:
        stitches, left = [], count
        while left > 0 or rng.randrange(4) == 0:
            taken = rng.randint(0, min(3, left))
            stitches.append((taken, rng.randint(1, 3)))
            left -= taken
        if sum(drawn for _, drawn in stitches) <= most:
            return tuple(stitches)


def drawn_charts(seed, many, widest=8, highest=6):
    """So many drawn charts."""
    rng = random.Random(seed)
    while many > 0:
        width, height = rng.randint(1, widest), rng.randint(1, highest)
        rows, count = [], width
        for _ in range(height):
            stitches = drawn_stitches(rng, count, widest)
            rows.append((rng.choice(("a", "b", "cord")), rng.randrange(count), stitches))
            count = sum(drawn for _, drawn in stitches)
        if count == width:
            many -= 1
            yield Chart(width, rows)


def worked(chart, row, first, last):
    """The stitches of a row in the repeats from first to last, by [8].

    For each one a list of the numbers that it takes, and of those it draws.
    """
    _, offset, stitches = chart.rows[row]
    ahead, behind = chart.counts[row], chart.counts[row + 1]
    found = []
    for repeat in range(first, last + 1):
        take, draw = repeat * ahead + offset, repeat * behind
        for many, drawn in stitches:
            found.append((list(range(take, take + many)), list(range(draw, draw + drawn))))
            take, draw = take + many, draw + drawn
    return found


def steady_stitches(rng, count):
    """Stitches that take count loops, most of them one each, and draw about as many."""
    stitches, left = [], count
    while left > 0:
        stitch = rng.choice([(1, 1)] * 12 + [(2, 1), (1, 2)] * 2 + [(2, 2), (0, 1), (3, rng.randint(1, 3))])
        if stitch[0] <= left:
            stitches.append(stitch)
            left -= stitch[0]
    return tuple(stitches)


def steady_charts(seed, many, widest=8, highest=6):
    """So many charts, in which runs are long and ways up meet late."""
    rng = random.Random(seed)
    while many > 0:
        width, height = rng.randint(1, widest), rng.randint(1, highest)
        rows, counts = [], [width]
        for _ in range(height):
            stitches = steady_stitches(rng, counts[-1])
            rows.append(("a", rng.randrange(counts[-1]), stitches))
            counts.append(sum(drawn for _, drawn in stitches))
        if counts[-1] == width and max(counts) <= widest:
            many -= 1
            yield Chart(width, rows)


def places_of(chart):
    """All places of a chart, ascending."""
    return [(row, cell) for row in range(len(chart)) for cell in range(chart.counts[row + 1])]
