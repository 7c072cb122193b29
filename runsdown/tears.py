"""How far the runs of tears go, for tears of every width."""

from math import lcm

from runsdown.checks import check_place, check_width
from runsdown.errors import Unfit
from runsdown.maps import (
    below, far_end, last_child, left_end, right_end, round_table, shifted, turns)


def places(chart):
    """Return the ascending list of the places of a chart."""
    return [(row, cell) for row, count in enumerate(chart.counts[1:]) for cell in range(count)]


def width_for(chart, row, cell, rows):
    """Return the least width of a tear at a place that runs so many rows down."""
    low = far_end(chart, row, cell, rows, left_end, -1)
    # The right end of a run comes at least to a loop exactly if the run
    # begins with all of the last children above it.
    last = far_end(chart, (row - rows) % len(chart), low, rows, last_child, 1)
    return last - cell + 1


def least_width(chart, row, cell, rows):
    """Return the least width of a tear at a place whose depth is at least rows."""
    check_place(row, cell, chart.counts)
    check_width(rows, 0)
    return width_for(chart, row, cell, rows)


def held_width(chart, row, cell):
    """Return the greatest width whose tear at a place ends.

    That is 0 if none does, None if all do.
    """
    check_place(row, cell, chart.counts)
    lefts, rights = turns(chart)
    if lefts != rights:
        return None
    # After as many times as a repeat has loops both ends go in circles, which
    # take at most as many times again: what has not ended then never does.
    return width_for(chart, row, cell, 2 * chart.counts[row + 1] * len(chart)) - 1


def doubled(table):
    """Return the table of the map of a table, taken twice."""
    return [shifted(table, end) for end in table]


def rounds_held(chart, row, left, right):
    """Return through how many whole rounds a run that ends goes, and its stretch there."""
    lefts = round_table(chart, row, left_end, -1)
    rights = round_table(chart, row, right_end, -1)
    steps = []
    while shifted(lefts, left) <= shifted(rights, right):
        steps.append((lefts, rights))
        lefts, rights = doubled(lefts), doubled(rights)
    rounds = 0
    for lefts, rights in steps[::-1]:
        rounds = 2 * rounds
        low, high = shifted(lefts, left), shifted(rights, right)
        if low <= high:
            rounds, left, right = rounds + 1, low, high
    return rounds, left, right


def last_stretch(chart, row, left, right):
    """Return how many rows down a run that ends goes, and its stretch there."""
    rounds, left, right = rounds_held(chart, row, left, right)
    rows, stretch = rounds * len(chart), below(chart, row, left, right)
    while stretch is not None:
        rows, row = rows + 1, (row - 1) % len(chart)
        left, right = stretch
        stretch = below(chart, row, left, right)
    return rows, left, right


def end_of(chart, row, cell, width):
    """Return what last_stretch does for a tear at a place, None if it never ends."""
    check_place(row, cell, chart.counts)
    check_width(width, 1)
    held = held_width(chart, row, cell)
    if held is not None and width > held:
        return None
    return last_stretch(chart, row, cell, cell + width - 1)


def depth(chart, row, cell, width):
    """Return in how many rows below loops run by a tear, None if it never ends."""
    end = end_of(chart, row, cell, width)
    return None if end is None else end[0]


def last_loops(chart, row, cell, width):
    """Return how many rows below the last loops run by a tear, and their stretch.

    That is None if none run there, or the run never ends.
    """
    end = end_of(chart, row, cell, width)
    return None if end is None or end[0] == 0 else end


def widths_for(chart, row, cell, most):
    """Return the list of the least widths whose depth is at least 0, 1 and so on to most."""
    counts, number, widths = chart.counts, cell, [1]
    count = counts[row + 1]
    # For each number in repeat 0 of the row that is reached, the number in
    # the torn row to which last children lead up from it.
    tops = list(range(count))
    for _ in range(most):
        number = left_end(chart, row, number)
        here, row = counts[row + 1], (row - 1) % len(chart)
        lasts = [last_child(chart, row, each) for each in range(counts[row + 1])]
        tops = [tops[last % here] + last // here * count for last in lasts]
        repeat, rest = divmod(number, len(tops))
        widths.append(tops[rest] + repeat * count - cell + 1)
    return widths


def depths_below(widths, least):
    """Return the depths of the tears of the widths 1, 2 and so on, all less than least.

    Widths tells the least widths for the depths 0, 1 and so on, the last
    one of them at least least.
    """
    depths, reached = [], 0
    for width in range(1, least):
        while widths[reached + 1] <= width:
            reached = reached + 1
        depths.append(reached)
    return depths


def goes_by(depths, start, many, every):
    """Tell whether so many depths, from start on, grow alike to those every further."""
    more = depths[start + every] - depths[start]
    return all([depths[at + every] - depths[at] == more for at in range(start, start + many)])


def growing_form(chart, row, cell):
    """Return the form of the depths at a place of a chart whose tears all end."""
    (one, many), (other, rest) = turns(chart)
    times = lcm(many, rest)
    # From these rows on, both ends go in circles, down and up. So a tear that
    # is wider by so many loops goes deeper by just so many times.
    rows = max(chart.counts) * len(chart)
    wider = (one * times // many - other * times // rest) * chart.counts[row + 1]
    widths = widths_for(chart, row, cell, rows + 2 * times * len(chart))
    start = widths[rows] - 1
    depths = depths_below(widths, widths[rows] + 2 * wider)
    fits = [every for every in range(1, wider + 1) if wider % every == 0 and goes_by(depths, start, wider, every)]
    every = fits[0]
    more = depths[start + every] - depths[start]
    fewest = start + every
    while fewest > every and depths[fewest - 1] == depths[fewest - 1 - every] + more:
        fewest = fewest - 1
    return depths[:fewest], every, more


def depth_form(chart, row, cell):
    """Return what tells the depths of the tears of all widths at a place.

    That is a tuple (depths, every, more): the depths of the widths 1, 2 and
    so on, and how much a greater width adds to the depth of one that is less
    by every; every and more are 0 if greater widths never end.
    """
    held = held_width(chart, row, cell)
    if held is None:
        return growing_form(chart, row, cell)
    widths = widths_for(chart, row, cell, 2 * chart.counts[row + 1] * len(chart))
    return depths_below(widths, held + 1), 0, 0


def told_depths(form, most):
    """Return the depths that a form tells for the widths 1, 2 and so on to most."""
    depths, every, more = form
    depths = list(depths)
    while len(depths) < most:
        depths.append(depths[-every] + more if every > 0 else None)
    return depths[:most]


def round_sums(chart, row, step):
    """Return a table for going down one round from each number in repeat 0.

    It tells where the number comes, and the sum of the numbers on the way,
    one in each row.
    """
    sums = []
    for start in range(chart.counts[row + 1]):
        number, total, at = start, 0, row
        for _ in range(len(chart)):
            number, at = step(chart, at, number), (at - 1) % len(chart)
            total = total + number
        sums.append((number, total))
    return sums


def moved(sums, grown, number):
    """Return where a number comes by a table of sums, and its sum.

    A whole repeat more makes the sum greater by grown.
    """
    repeat, rest = divmod(number, len(sums))
    end, total = sums[rest]
    return end + repeat * len(sums), total + repeat * grown


def twice(sums, grown):
    """Return the table of sums for going twice as far."""
    found = []
    for end, total in sums:
        further, more = moved(sums, grown, end)
        found.append((further, total + more))
    return found


def far_sum(chart, row, number, rows, step):
    """Return the sum of the numbers in so many next rows below, one in each."""
    sums, grown = round_sums(chart, row, step), sum(chart.counts[1:])
    times, rest = divmod(rows, len(chart))
    total = 0
    while times > 0:
        if times % 2 == 1:
            number, more = moved(sums, grown, number)
            total = total + more
        sums, grown, times = twice(sums, grown), 2 * grown, times // 2
    for _ in range(rest):
        number, row = step(chart, row, number), (row - 1) % len(chart)
        total = total + number
    return total


def loops_run(chart, row, cell, width, rows):
    """Return how many loops run by a tear in so many next rows below, all together."""
    end = end_of(chart, row, cell, width)
    check_width(rows, 0)
    if end is not None:
        rows = min(rows, end[0])
    rights = far_sum(chart, row, cell + width - 1, rows, right_end)
    return rights - far_sum(chart, row, cell, rows, left_end) + rows


def worst(chart, width):
    """Return the greatest depth of all tears of a width, and the least place that has it."""
    check_width(width, 1)
    best = None
    for row, cell in places(chart):
        found = depth(chart, row, cell, width)
        if found is None:
            return None, (row, cell)
        if best is None or found > best[0]:
            best = (found, (row, cell))
    return best


def greatest_depth(chart, width):
    """Return the greatest depth of all tears of a width, None if one never ends."""
    return worst(chart, width)[0]


def worst_place(chart, width):
    """Return the least place whose tear of a width has the greatest depth."""
    return worst(chart, width)[1]


def unlike_width(form, other):
    """Return the least width for which two forms tell unlike depths, None if there is none."""
    # Behind the depths that both list they go by repeats, and those that are
    # alike for as many widths as both repeats have are alike for ever.
    most = 2 * (len(form[0]) + len(other[0]) + 1)
    for width, (one, two) in enumerate(zip(told_depths(form, most), told_depths(other, most)), start=1):
        if one != two:
            return width
    return None


def unlike_depth(one, other):
    """Return (width, row, cell) of the first tear with unlike depths in two charts, or None."""
    if one.counts != other.counts:
        raise Unfit(0)
    found = []
    for row, cell in places(one):
        width = unlike_width(depth_form(one, row, cell), depth_form(other, row, cell))
        if width is not None:
            found.append((width, row, cell))
    return min(found, default=None)


def same_depths(one, other):
    """Tell whether two charts have equal depths for all places and widths."""
    return unlike_depth(one, other) is None
