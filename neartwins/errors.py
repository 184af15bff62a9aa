"""The refusals of the program, one class for each kind."""


class TwinError(ValueError):
    """Any refusal but NoRoom, NoName and NoDivisor."""


class NoMachine(TwinError):
    """What was handed in is no machine: the part that is wrong, and the number of the first wrong thing in it."""

    def __init__(self, part, number):
        self.part = part
        self.number = number


class NoSheet(TwinError):
    """What was handed in is no sheet: the number of the first wrong row, or None."""

    def __init__(self, number):
        self.number = number


class NoText(TwinError):
    """What was handed in is no text of a machine: the number of the first wrong row."""

    def __init__(self, row):
        self.row = row


class NoNumber(TwinError):
    """A number is of another kind, or beyond its bounds."""


class NoOrder(TwinError):
    """What was handed in is no order of a machine's rooms."""


class NoRow(TwinError):
    """What was handed in is no row of marks."""


class NoShares(TwinError):
    """What were handed in are no shares."""


class NoTable(TwinError):
    """What was handed in is no table for so many places, or has no corners where it must."""


class NoFade(TwinError):
    """What was handed in is no fade."""


class NoTwins(TwinError):
    """Two machines have not the same marks."""


class NoMark(TwinError):
    """What was handed in is no mark."""


class NoDeed(TwinError):
    """There is no deed to undo."""


class NoLine(TwinError):
    """A desk was told what is no row of its words."""


class TooMany(TwinError):
    """An answer would have more things than it may."""


class NoRoom(IndexError):
    """What was handed in is no room's number."""

    def __init__(self, room):
        self.room = room


class NoName(KeyError):
    """Nothing is kept by this name."""

    def __init__(self, name):
        self.name = name


class NoDivisor(ZeroDivisionError):
    """Something was to be divided by nought."""
