"""The errors of the package."""


class RunError(ValueError):
    """What every error of this package is; value tells what was wrong."""

    def __init__(self, value):
        self.value = value


class InvalidLoops(RunError):
    """The loops of a cloth are wrong from the item with index value on."""


class InvalidFast(RunError):
    """The fast loops of a cloth are wrong from the item with index value on."""


class InvalidLoop(RunError):
    """The value is not the number of a loop."""


class InvalidLot(RunError):
    """A list of loops is wrong from the item with index value on."""


class InvalidRow(RunError):
    """The item with index value is no row of a work."""


class TooFew(RunError):
    """A stitch, value is (row, stitch), wants more loops than are left."""


class LeftOver(RunError):
    """A row leaves loops unworked; value is (row, many)."""


class InvalidChart(RunError):
    """The item with index value is no row of a chart."""


class Unbalanced(RunError):
    """The last row of a chart leaves value loops, which is not its width."""


class InvalidSize(RunError):
    """The value is not an integer of at least 1."""


class InvalidPlace(RunError):
    """The value is no place."""


class InvalidWidth(RunError):
    """The value is no width, or no number of rows."""


class InvalidPins(RunError):
    """A list of pins is wrong from the item with index value on."""


class InvalidEnds(RunError):
    """A list of ends is wrong from the item with index value on."""


class Unfit(RunError):
    """Nothing fits what was told."""


class NothingToUndo(RunError):
    """No deed is left that could be taken back."""


class InvalidText(RunError):
    """A text is wrong from the line with index value on."""


class InvalidOrder(RunError):
    """The value is no order."""


class WouldRun(RunError):
    """The loop value of a kept thread would run."""
