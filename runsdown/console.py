"""A console: a live cloth that orders in words work on."""

from runsdown.errors import InvalidOrder
from runsdown.live import LiveCloth, without
from runsdown.needles import is_row, is_stitch
from runsdown.texts import read_number, read_stitch, write_cloth


def told(numbers):
    """Return the text of a list of numbers."""
    return " ".join([str(number) for number in numbers]) if numbers else "none"


def read_row(words):
    """Return the row of a work that words tell, None if they tell none."""
    if len(words) < 2:
        return None
    stitches = [word if is_stitch(word) else read_stitch(word) for word in words[1:]]
    row = (words[0], tuple(stitches))
    return row if is_row(row) else None


def read_loop(words):
    """Return the number that the only one of words tells, None if there is none."""
    return read_number(words[0]) if len(words) == 1 else None


class Console:
    """What carries out orders on a live cloth."""

    def __init__(self, thread, width):
        self._live = LiveCloth(thread, width)

    def execute(self, order):
        """Carry out an order and return the text that it puts out."""
        if not isinstance(order, str):
            raise InvalidOrder(order)
        words = order.split(" ")
        word, words = words[0], words[1:]
        if word == "row":
            return self._work(order, read_row(words))
        if word in ("cut", "pin", "unpin"):
            return self._change(order, word, read_loop(words))
        if words:
            raise InvalidOrder(order)
        return self._answer(word)

    def _work(self, order, row):
        """Work a row; raise InvalidOrder for an order that tells none."""
        if row is None:
            raise InvalidOrder(order)
        thread, stitches = row
        return told(self._live.row(thread, stitches))

    def _change(self, order, word, loop):
        """Cut, pin or unpin a loop; raise InvalidOrder for an order that tells none."""
        if loop is None:
            raise InvalidOrder(order)
        if word == "cut":
            return told(self._live.cut(loop))
        if word == "pin":
            return told(self._live.pin(loop))
        return told(self._live.unpin(loop))

    def _answer(self, order):
        """Carry out an order of one word."""
        if order == "bind":
            return told(self._live.bind())
        if order == "undo":
            return self._live.undo()
        if order == "needle":
            return told(self._live.needle)
        if order == "gone":
            return told(self._live.gone)
        if order == "left":
            return told(without(list(range(len(self._live.cloth))), self._live.gone))
        if order == "cloth":
            return write_cloth(self._live.cloth)
        raise InvalidOrder(order)
