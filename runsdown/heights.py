"""How many cuts free a loop of a chart's cloth, at every height."""

from runsdown.bands import least_needed
from runsdown.charts import draw_row
from runsdown.checks import check_place, check_width
from runsdown.cloths import Cloth
from runsdown.cutting import cuts_for, ways_for
from runsdown.maps import first_child, last_child

RING = 3


def child_tables(chart):
    """Return for each row, for each number in repeat 0, its first and its last child."""
    return [
        [(first_child(chart, row, number), last_child(chart, row, number)) for number in range(count)]
        for row, count in enumerate(chart.counts[1:])
    ]


def ends_above(tables, row, number):
    """Return the numbers, in the row above, of the first and the last child of a loop."""
    repeat, rest = divmod(number, len(tables[row]))
    more = repeat * len(tables[(row + 1) % len(tables)])
    first, last = tables[row][rest]
    return first + more, last + more


def go_up(tables, row, low, inner, high):
    """Return low, inner and high for the row above.

    Low is where the way along first children comes, high that along last
    ones; inner has the loops between to which a third way can come.
    """
    bottom, top = ends_above(tables, row, low)[0], ends_above(tables, row, high)[1]
    found = {}
    for number in inner:
        first, last = ends_above(tables, row, number)
        for child in range(max(first, bottom + 1), min(last, top - 1) + 1):
            found[child] = True
    return bottom, list(found), top


def third_ends(chart, row, cell):
    """Return the least rows above for which a loop has no three ways up.

    Two of the ways have only the loop in common. None if it always has.
    """
    tables = child_tables(chart)
    low, high = ends_above(tables, row, cell)
    inner, rows, row = list(range(low + 1, high)), 1, (row + 1) % len(tables)
    seen = set()
    while inner:
        count = len(tables[row])
        now = (row, low % count, high - low, tuple([number - low for number in inner]))
        # From low over the inner loops to high, no step is ever wider than a
        # repeat. So if these two are three repeats apart, an inner loop is a
        # repeat away from both, and then a way from it never meets them.
        if now in seen or high - low >= 3 * count:
            return None
        seen.add(now)
        low, inner, high = go_up(tables, row, low, inner, high)
        rows, row = rows + 1, (row + 1) % len(tables)
    return rows


def hold_drops(chart, row, cell):
    """Return the tuples (rows, number) of where the number that hold tells is new."""
    check_place(row, cell, chart.counts)
    width, single = least_needed(chart, row, cell, cell)
    double = third_ends(chart, row, cell)
    drops = [(1, 3)]
    if double is not None:
        drops.append((double, 2))
    if width == 1:
        drops.append((single, 1))
    # Of several numbers for the same rows the last one is right.
    last = dict(drops)
    return [(rows, last[rows]) for rows in sorted(last)]


def hold(chart, row, cell, rows):
    """Return the least number of cuts that free a loop below so many rows."""
    check_place(row, cell, chart.counts)
    check_width(rows, 1)
    return [number for fall, number in hold_drops(chart, row, cell) if fall <= rows][-1]


def hold_for_ever(chart, row, cell):
    """Return the least number of cuts that free a loop however many rows are above it."""
    return hold_drops(chart, row, cell)[-1][1]


def cloth_above(chart, row, rows):
    """Return the cloth of a row in 3 repeats and so many rows above it.

    Return also the number in this cloth of the first loop of each row, and
    of that behind the last one.
    """
    counts = chart.counts
    loops = [(chart.rows[row][0], ())] * (RING * counts[row + 1])
    firsts = [0, len(loops)]
    for _ in range(rows):
        row = (row + 1) % len(chart)
        loops.extend(draw_row(chart.rows[row], firsts[-2], RING * counts[row], RING))
        firsts.append(len(loops))
    return Cloth(loops, list(range(firsts[-2], firsts[-1]))), firsts


def hold_cuts(chart, row, cell, rows):
    """Return as few cuts as any that free a loop, tuples (rows above, number)."""
    check_place(row, cell, chart.counts)
    check_width(rows, 1)
    cloth, firsts = cloth_above(chart, row, rows)
    found = []
    for cut in cuts_for(cloth, cell):
        above = max([index for index, first in enumerate(firsts) if first <= cut])
        found.append((above, cut - firsts[above]))
    return sorted(found)


def hold_ways(chart, row, cell, rows):
    """Return as many ways up from a loop, two of which have only it in common.

    Each is the list of the numbers of its loops in the rows above.
    """
    check_place(row, cell, chart.counts)
    check_width(rows, 1)
    cloth, firsts = cloth_above(chart, row, rows)
    # Each loop of a way is a row above the one ahead.
    return [[loop - first for loop, first in zip(way[1:], firsts[1:])] for way in ways_for(cloth, cell)]
