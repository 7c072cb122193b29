"""Where the ends of a run go, row by row, and what must be torn above."""

from runsdown.checks import check_row, check_width


def spans(chart, row):
    """Return what each stitch of a row that takes loops takes and draws.

    These are tuples of numbers in repeat 0: the first and the last loop that
    it takes, and the first and the last one that it draws.
    """
    _, offset, stitches = chart.rows[row]
    found, low, new = [], offset, 0
    for many, drawn in stitches:
        if many > 0:
            found.append((low, low + many - 1, new, new + drawn - 1))
        low, new = low + many, new + drawn
    return found


def left_end(chart, row, number):
    """Return the left end, in the row below, of what runs by a stretch from number on."""
    check_row(row, len(chart))
    ahead, behind = chart.counts[row:row + 2]
    # Each stitch in the first repeat in which it draws nothing left of number.
    return min([low - (new - number) // behind * ahead for low, _, new, _ in spans(chart, row)])


def right_end(chart, row, number):
    """Return the right end, in the row below, of what runs by a stretch up to number."""
    check_row(row, len(chart))
    ahead, behind = chart.counts[row:row + 2]
    # Each stitch in the last repeat in which it draws nothing right of number.
    return max([high + (number - last) // behind * ahead for _, high, _, last in spans(chart, row)])


def stitch_above(chart, row, number):
    """Return the numbers of the first and the last child of a loop of a row."""
    above = (row + 1) % len(chart)
    ahead, behind = chart.counts[above:above + 2]
    # The loop's own stitch is the last of those that begin at it or left of it.
    return max([
        (new + (number - low) // ahead * behind, last + (number - low) // ahead * behind)
        for low, _, new, last in spans(chart, above)
    ])


def first_child(chart, row, number):
    """Return the number, in the row above, of the first child of a loop of a row."""
    check_row(row, len(chart))
    return stitch_above(chart, row, number)[0]


def last_child(chart, row, number):
    """Return the number, in the row above, of the last child of a loop of a row."""
    check_row(row, len(chart))
    return stitch_above(chart, row, number)[1]


def walk(chart, row, number, rows, step, by):
    """Return where a number comes by so many steps, row by row.

    Each step goes from a row to the next one up, if by is 1, or down, if -1.
    """
    for _ in range(rows):
        number = step(chart, row, number)
        row = (row + by) % len(chart)
    return number


def shifted(table, number):
    """Return where a number comes by a map that a table tells.

    The table tells it for the numbers of repeat 0; a whole repeat more is a
    whole repeat more.
    """
    repeat, rest = divmod(number, len(table))
    return table[rest] + repeat * len(table)


def repeated(table, number, times):
    """Return where a number comes by so many times the map of a table."""
    # Doubling the map: the times may have dozens of digits.
    while times > 0:
        if times % 2 == 1:
            number = shifted(table, number)
        table = [shifted(table, end) for end in table]
        times = times // 2
    return number


def round_table(chart, row, step, by):
    """Return the table of going from a row to the same row one time off."""
    return [walk(chart, row, number, len(chart), step, by) for number in range(chart.counts[row + 1])]


def far_end(chart, row, number, rows, step, by):
    """Return what walk does, for any number of rows."""
    times, rest = divmod(rows, len(chart))
    if times > 0:
        number = repeated(round_table(chart, row, step, by), number, times)
    return walk(chart, row, number, rest, step, by)


def below(chart, row, left, right):
    """Return the stretch that runs in the row below by a stretch of a row, or None."""
    return ends_at(chart, row, left, right, 1)


def ends_at(chart, row, left, right, rows):
    """Return the stretch that runs so many rows below a stretch of a row, or None."""
    check_row(row, len(chart))
    check_width(rows, 0)
    low = far_end(chart, row, left, rows, left_end, -1)
    high = far_end(chart, row, right, rows, right_end, -1)
    # Ends that have crossed never part again, so those of the last row tell
    # whether nothing runs in a row on the way, too.
    return (low, high) if low <= high else None


def needed(chart, row, left, right, rows):
    """Return the stretch, so many rows above, whose tear takes all of a stretch."""
    check_row(row, len(chart))
    check_width(rows, 0)
    low = far_end(chart, row, left, rows, first_child, 1)
    high = far_end(chart, row, right, rows, last_child, 1)
    return low, high


def turn(table):
    """Return the turn of the map of a table, a tuple (repeats, times)."""
    count = len(table)
    # After as many times as there are numbers in a repeat it goes in a circle.
    start = repeated(table, 0, count)
    end, times = shifted(table, start), 1
    while (end - start) % count > 0:
        end, times = shifted(table, end), times + 1
    # The map never falls, so a part of this circle does not turn by the same
    # part of the repeats: these are the lowest terms.
    return (end - start) // count, times


def turns(chart):
    """Return the turns of the left and of the right ends, tuples (repeats, times)."""
    lefts = round_table(chart, 0, left_end, -1)
    rights = round_table(chart, 0, right_end, -1)
    return turn(lefts), turn(rights)
