"""What tears can be behind a stretch that has run."""

from math import lcm

from runsdown.checks import check_row, check_width
from runsdown.maps import far_end, first_child, last_child, turns


def tears_behind(chart, row, left, right, rows):
    """Return what tears, so many rows above, run just to a stretch of a row.

    That is a tuple of two tuples: the first and the last number from which
    they go, and the first and the last one to which they go; None if there
    are none.
    """
    check_row(row, len(chart))
    check_width(rows, 0)
    # An end comes to a number from all those behind the way up from the
    # number beside it, as far as the way up from itself.
    froms = (far_end(chart, row, left - 1, rows, first_child, 1) + 1, far_end(chart, row, left, rows, first_child, 1))
    tos = (far_end(chart, row, right, rows, last_child, 1), far_end(chart, row, right + 1, rows, last_child, 1) - 1)
    return (froms, tos) if froms[0] <= froms[1] and tos[0] <= tos[1] else None


def longest_behind(chart, row, left, right):
    """Return the greatest number of rows for which a stretch has tears behind it.

    None if there is no greatest one.
    """
    check_row(row, len(chart))
    before, behind = left - 1, right + 1
    # Ways up that have met never part again; after as many times as a repeat
    # has loops they go in circles, where none meet that have not met before.
    for rows in range(chart.counts[row + 1] * len(chart)):
        before, left = first_child(chart, row, before), first_child(chart, row, left)
        right, behind = last_child(chart, row, right), last_child(chart, row, behind)
        if before == left or right == behind:
            return rows
        row = (row + 1) % len(chart)
    return None


def least_needed(chart, row, left, right):
    """Return the least width that takes a stretch, for all rows above, and the least rows with it."""
    check_row(row, len(chart))
    (_, one), (_, other) = turns(chart)
    # Both ways up go in circles after as many times as a repeat has loops;
    # from then on the width does not fall from one common round to the next.
    times = chart.counts[row + 1] + lcm(one, other)
    best = None
    for rows in range(1, times * len(chart) + 1):
        left, right = first_child(chart, row, left), last_child(chart, row, right)
        row = (row + 1) % len(chart)
        if best is None or right - left + 1 < best[0]:
            best = (right - left + 1, rows)
    return best
