"""Charts: rows of stitches that are repeated round and up."""

from runsdown.checks import check_size, is_integer, is_number, is_thread
from runsdown.cloths import Cloth
from runsdown.errors import InvalidChart, InvalidPlace, InvalidSize, Unbalanced
from runsdown.needles import is_stitch


def is_chart_stitch(value):
    """Tell whether any value is a stitch of a chart."""
    return isinstance(value, tuple) and is_stitch(value) and value[1] > 0


def is_chart_row(value, count):
    """Tell whether any value is a row of a chart that takes count loops."""
    if not isinstance(value, tuple) or len(value) != 3:
        return False
    thread, offset, stitches = value
    if not is_thread(thread) or not is_number(offset, count) or not isinstance(stitches, tuple):
        return False
    if not all([is_chart_stitch(stitch) for stitch in stitches]):
        return False
    return sum([taken for taken, _ in stitches]) == count


def count_rows(width, rows):
    """Return the counts of a chart; raise what is wrong with its rows."""
    if not isinstance(rows, list) or not rows:
        raise InvalidChart(-1)
    counts = [width]
    for index, row in enumerate(rows):
        if not is_chart_row(row, counts[-1]):
            raise InvalidChart(index)
        counts.append(sum([drawn for _, drawn in row[2]]))
    if counts[-1] != width:
        raise Unbalanced(counts[-1])
    return counts


class Chart:
    """Rows of stitches that fit one above the other, and the first above the last."""

    def __init__(self, width, rows):
        check_size(width)
        self._counts = count_rows(width, rows)
        self._rows = list(rows)

    @property
    def width(self):
        """The number of loops in a repeat ahead of the first row."""
        return self._counts[0]

    @property
    def rows(self):
        """The list of the rows, tuples (thread, offset, stitches)."""
        return list(self._rows)

    @property
    def counts(self):
        """The list of the counts, that ahead of the first row first."""
        return list(self._counts)

    def wider(self, times):
        """Return the chart whose repeat is so many repeats of this one."""
        check_size(times)
        rows = [(thread, offset, stitches * times) for thread, offset, stitches in self._rows]
        return Chart(self.width * times, rows)

    def taller(self, times):
        """Return the chart whose rows are those of this one so many times."""
        check_size(times)
        return Chart(self.width, self._rows * times)

    def __add__(self, other):
        if not isinstance(other, Chart):
            return NotImplemented
        if self.width != other.width:
            raise InvalidSize(other.width)
        return Chart(self.width, self._rows + other._rows)

    def __len__(self):
        return len(self._rows)

    def __eq__(self, other):
        return isinstance(other, Chart) and self._counts == other._counts and self._rows == other._rows


def draw_row(row, first, ring, m):
    """Return the loops of m repeats of a row of a chart.

    The row takes the loops of a ring of so many, which are numbered in the
    cloth from first on.
    """
    thread, offset, stitches = row
    loops, at = [], offset
    for taken, drawn in stitches * m:
        parents = sorted([first + number % ring for number in range(at, at + taken)])
        loops.extend([(thread, tuple(parents))] * drawn)
        at = at + taken
    return loops


def cloth_at(chart, m, n):
    """Return the cloth of a chart in m repeats, worked n times."""
    check_size(m)
    check_size(n)
    rows, counts = chart.rows, chart.counts
    loops, first = [(rows[0][0], ())] * (m * chart.width), 0
    for _ in range(n):
        for row, count in zip(rows, counts):
            drawn = draw_row(row, first, m * count, m)
            first = len(loops)
            loops.extend(drawn)
    return Cloth(loops, list(range(first, len(loops))))


def loop_at(chart, m, n, time, row, number):
    """Return the loop of cloth_at(chart, m, n) with a number in a row."""
    check_size(m)
    check_size(n)
    if not is_number(time, n) or not is_number(row, len(chart)) or not is_integer(number):
        raise InvalidPlace((time, row, number))
    counts = chart.counts
    earlier = time * sum(counts[1:]) + sum(counts[:row + 1])
    return m * earlier + number % (m * counts[row + 1])
