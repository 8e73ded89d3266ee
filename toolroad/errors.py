"""The refusals. Each value that a refusal tells is an attribute of it."""


class OverNought(ZeroDivisionError):
    """A number was to be told over 0."""


class NoPiece(KeyError):
    """A row calls a piece of a name that no piece has."""

    def __init__(self, name):
        self.name = name


class NoStep(IndexError):
    """A step was asked for by a number that none of the road's many steps has."""

    def __init__(self, number, many):
        self.number = number
        self.many = many


class MillError(ValueError):
    """What all the refusals below stand under."""


class NoHeading(MillError):
    """What was handed in gives no heading."""


class NoText(MillError):
    """The row at this number, from 0, keeps the text from being a program."""

    def __init__(self, at):
        self.at = at


class Uneven(MillError):
    """A distance that the row of this number needs is no number above 0."""

    def __init__(self, row):
        self.row = row


class NoFrame(MillError):
    """The row of this number has no frame to take away, or puts one too many."""

    def __init__(self, row):
        self.row = row


class TooDeep(MillError):
    """The call in the row of this number stands within too many calls."""

    def __init__(self, row):
        self.row = row


class TooMany(MillError):
    """There are more of something than the most that may be."""

    def __init__(self, most):
        self.most = most


class NoState(MillError):
    """What was handed in is no state of the program."""


class Unled(MillError):
    """The cut of this number has a side, and no hop ahead of it to come there by."""

    def __init__(self, number):
        self.number = number


class Gouge(MillError):
    """The tool would gouge the work at the step of this number."""

    def __init__(self, number):
        self.number = number


class Unmet(MillError):
    """The led cuts do not meet at the joint behind the cut of this number."""

    def __init__(self, number):
        self.number = number


class NoWindow(MillError):
    """What was handed in is no window."""


class NoEntry(MillError):
    """What was fed is no entry, or does not begin where the one ahead ends."""


class Closed(MillError):
    """What is closed was to be fed or closed."""


class Away(MillError):
    """The mill is left, or was to be taken up without being left."""


class Lifted(MillError):
    """The mill was told to do something while a deed has its tool lifted."""
