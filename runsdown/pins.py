"""Pins: places of a chart at which all loops are fast."""

from itertools import combinations

from runsdown.checks import check_place, check_row, is_integer, is_place
from runsdown.errors import InvalidPins, InvalidWidth
from runsdown.maps import spans
from runsdown.tears import places

MOST_PINS = 2


def check_pins(pins, counts):
    """Raise InvalidPins unless this is an ascending list of places of a chart with these counts."""
    if not isinstance(pins, list):
        raise InvalidPins(-1)
    for index, pin in enumerate(pins):
        if not is_place(pin, counts) or (index > 0 and pin <= pins[index - 1]):
            raise InvalidPins(index)


def go_down(chart, pins, row, numbers):
    """Return what lot_below does, for right arguments."""
    ahead, behind = chart.counts[row:row + 2]
    under = (row - 1) % len(chart)
    ran = set(numbers)
    found = []
    for repeat in sorted({number // behind for number in numbers}):
        for low, high, new, last in spans(chart, row):
            if all([child + repeat * behind in ran for child in range(new, last + 1)]):
                found.extend(list(range(low + repeat * ahead, high + repeat * ahead + 1)))
    return [number for number in found if (under, number % ahead) not in pins]


def lot_below(chart, pins, row, numbers):
    """Return the list of the loops that run in the row below by those of a list."""
    check_pins(pins, chart.counts)
    check_row(row, len(chart))
    return go_down(chart, pins, row, numbers)


def lot_depth(chart, pins, row, numbers):
    """Return in how many rows below loops run by those of a list, None if they run for ever."""
    rows = 0
    seen = set()
    numbers = go_down(chart, pins, row, numbers)
    while numbers:
        rows, row = rows + 1, (row - 1) % len(chart)
        count = chart.counts[row + 1]
        start = numbers[0] // count * count
        now = (row, tuple([number - start for number in numbers]))
        if now in seen:
            return None
        seen.add(now)
        numbers = go_down(chart, pins, row, numbers)
    return rows


def pinned_depth(chart, pins, row, cell, width):
    """Return the depth of a tear of at most a repeat, None if it runs for ever."""
    check_pins(pins, chart.counts)
    check_place(row, cell, chart.counts)
    if not is_integer(width) or not 1 <= width <= chart.counts[row + 1]:
        raise InvalidWidth(width)
    return lot_depth(chart, pins, row, list(range(cell, cell + width)))


def runs_on(chart, pins, row, cell, width):
    """Tell whether the run of a tear goes on for ever."""
    return lot_depth(chart, pins, row, list(range(cell, cell + width))) is None


def holds(chart, pins):
    """Tell whether right pins are safe."""
    # Each run that goes on for ever comes to the first row, where no tear of
    # a repeat runs less far than what is left of it there.
    count = chart.counts[1]
    return not any([runs_on(chart, pins, 0, cell, count) for cell in range(count)])


def is_safe(chart, pins):
    """Tell whether no tear of at most a repeat runs for ever."""
    check_pins(pins, chart.counts)
    return holds(chart, pins)


def unsafe_tear(chart, pins):
    """Return (width, row, cell) of the least tear that runs for ever, None if there is none."""
    check_pins(pins, chart.counts)
    # Each run that goes on for ever comes to the row with the fewest loops,
    # so the least such tear is no wider than a repeat of it.
    for width in range(1, min(chart.counts) + 1):
        for row, cell in places(chart):
            if runs_on(chart, pins, row, cell, width):
                return width, row, cell
    return None


def least_pins(chart, most):
    """Return all safe lists of as few pins as any, [] if more than most are needed."""
    if not is_integer(most) or not 0 <= most <= MOST_PINS:
        raise InvalidWidth(most)
    spots = places(chart)
    for many in range(most + 1):
        found = [list(pins) for pins in combinations(spots, many) if holds(chart, list(pins))]
        if found:
            return found
    return []
