"""The errors of the package, those of parts that stand elsewhere with them."""


class LeapError(ValueError):
    """The one base of all errors of the package."""


class BadMachine(LeapError):
    """What was passed makes no machine; part is the first thing that is wrong."""

    def __init__(self, part):
        self.part = part


class NoRun(LeapError):
    """A thing is no run of the machine."""


class NoNumber(LeapError):
    """A thing is no integer within the bounds that are told."""


class NoEvents(LeapError):
    """A thing is no ascending tuple of events of the machine."""


class NoEvent(LeapError):
    """A thing is no event of the machine."""


class NoPart(LeapError):
    """Tries and points that are no part of an event."""


class TooMany(LeapError):
    """There are more than most of what is counted."""

    def __init__(self, most):
        self.most = most


class NoPhrase(LeapError):
    """A thing is no phrase."""


class BadText(LeapError):
    """A text that cannot be read; line is the first one that is wrong, 0 for no string."""

    def __init__(self, line):
        self.line = line


class NoShare(LeapError):
    """A thing is no share."""


class NoStanding(LeapError):
    """A thing is no reached standing of the machine."""


class NoKnot(LeapError):
    """Two standings that are not in one knot."""


class BadLot(LeapError):
    """What was passed makes no lot; part is the first thing that is wrong."""

    def __init__(self, part):
        self.part = part


class NoNumbers(LeapError):
    """A thing is no list or tuple of integers near to one another."""


class NoWay(LeapError):
    """A thing is no way."""


class NotBalanced(LeapError):
    """The machine is not balanced for the share."""


class NoStretch(LeapError):
    """Two shares that make no stretch for the machine."""


class NoBoard(LeapError):
    """A thing is no board that can stand here."""


class NoFlag(LeapError):
    """A thing is no flag."""


class NoPlaces(LeapError):
    """A thing is no number of places."""


class NoHow(LeapError):
    """A thing is no way of rounding."""


class NoMark(LeapError):
    """A thing is no mark."""


class TooLong(LeapError):
    """A run is longer than most."""

    def __init__(self, most):
        self.most = most


class NoWeights(LeapError):
    """A thing is no tuple of weights for the events."""


class NoLog(LeapError):
    """A thing is no log."""


class NotHere(LeapError):
    """An event cannot come at this standing."""


class NothingDone(LeapError):
    """There is nothing to take back."""


class NoTable(LeapError):
    """A thing is no tuple of lots."""


class NoLine(LeapError):
    """A thing is no line that the desk knows."""


class NoName(LeapError):
    """There is no machine of this name."""

    def __init__(self, name):
        self.name = name
