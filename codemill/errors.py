"""The errors by which the program refuses what is handed in."""


class MillError(RuntimeError):
    """Any refusal."""


class BadCode(MillError):
    """What should be a code is none; `at` is the first bad place, or None of what has no places."""

    def __init__(self, at):
        MillError.__init__(self, f"no code, first bad place: {at}")
        self.at = at


class BadNames(MillError):
    """What should be names, with values or without, is none."""


class BadNumber(MillError):
    """What should be a number within its bounds is none."""


class Unsound(MillError):
    """The code is not sound."""


class BadOrder(MillError):
    """What should be an order is none."""


class BadText(MillError):
    """What should write a code writes none; `at` is the first bad line, or None of what has no lines."""

    def __init__(self, at):
        MillError.__init__(self, f"no written code, first bad line: {at}")
        self.at = at


class BadUnits(MillError):
    """What should be the parts of units is none."""


class BadBytes(MillError):
    """What should be a table that can be packed, or a packed one, is none."""
