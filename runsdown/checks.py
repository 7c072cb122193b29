"""What several modules ask of their arguments."""

from runsdown.errors import InvalidLoop, InvalidLot, InvalidPlace, InvalidSize, InvalidWidth

LONGEST_THREAD = 8


def is_integer(value):
    """Tell whether any value is an integer; True and False are none."""
    return isinstance(value, int) and not isinstance(value, bool)


def is_number(value, many):
    """Tell whether any value is an integer from 0 to many less 1."""
    return is_integer(value) and 0 <= value < many


def is_thread(value):
    """Tell whether any value is the name of a thread."""
    if not isinstance(value, str) or not 1 <= len(value) <= LONGEST_THREAD:
        return False
    return all(["a" <= sign <= "z" for sign in value])


def wrong_number(numbers, many):
    """Tell where a list of different numbers below many goes wrong.

    That is the index of the first wrong item, -1 for what is no list,
    None if nothing is wrong.
    """
    if not isinstance(numbers, list):
        return -1
    seen = set()
    for index, number in enumerate(numbers):
        if not is_number(number, many) or number in seen:
            return index
        seen.add(number)
    return None


def check_loop(loop, many):
    """Raise InvalidLoop unless loop is the number of one of many loops."""
    if not is_number(loop, many):
        raise InvalidLoop(loop)


def check_lot(lot, many):
    """Raise InvalidLot unless lot is a list of some of many loops."""
    index = wrong_number(lot, many)
    if index is not None:
        raise InvalidLot(index)


def check_size(size):
    """Raise InvalidSize unless size is an integer of at least 1."""
    if not is_integer(size) or size < 1:
        raise InvalidSize(size)


def check_row(row, many):
    """Raise InvalidPlace unless row is the number of one of many rows."""
    if not is_number(row, many):
        raise InvalidPlace(row)


def check_width(width, least):
    """Raise InvalidWidth unless width is an integer of at least least."""
    if not is_integer(width) or width < least:
        raise InvalidWidth(width)


def is_place(value, counts):
    """Tell whether any value is a place of a chart with these counts."""
    if not isinstance(value, tuple) or len(value) != 2:
        return False
    row, cell = value
    return is_number(row, len(counts) - 1) and is_number(cell, counts[row + 1])


def check_place(row, cell, counts):
    """Raise InvalidPlace unless row and cell make a place of a chart with these counts."""
    if not is_place((row, cell), counts):
        raise InvalidPlace((row, cell))
