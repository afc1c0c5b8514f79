"""The errors of the program.

Each attribute holds the very object that was passed. Any object may stand in it, so no message is
made of it here: Python keeps what was passed by position and shows it when the error is shown.
"""


class IdleError(ValueError):
    """The base of all errors of the program; it has no attributes."""


class BadProgram(IdleError):
    """The parts make no program; place is that of the first thing that is wrong."""

    def __init__(self, place):
        self.place = place


class NoPlace(IdleError):
    """place is not the place of a deed."""

    def __init__(self, place):
        self.place = place


class NoWrite(IdleError):
    """place is not the place of a write."""

    def __init__(self, place):
        self.place = place


class BadText(IdleError):
    """The text is not that of a program; line is the number of the first line that cannot stand."""

    def __init__(self, line):
        self.line = line


class BadMeeting(IdleError):
    """The blocks make no meeting; index is that of the first one that is wrong."""

    def __init__(self, index):
        self.index = index


class NoName(IdleError):
    """name is not one of the names of a meeting."""

    def __init__(self, name):
        self.name = name


class UnlikeNames(IdleError):
    """Two things that go together have unlike names."""


class BadLot(IdleError):
    """The places make no lot; index is that of the first one that is wrong."""

    def __init__(self, index):
        self.index = index


class BadNumbers(IdleError):
    """The numbers of a run are not as many integers as its meeting has blocks."""


class BadAnswer(IdleError):
    """An answer is not of the kind that is taken; index is that of the answer."""

    def __init__(self, index):
        self.index = index


class UnlikeBones(IdleError):
    """Two programs have unlike bones; place is the first one at which they differ."""

    def __init__(self, place):
        self.place = place


class BadPromise(IdleError):
    """A thing among promises is none; index is that of the thing."""

    def __init__(self, index):
        self.index = index


class TooMany(IdleError):
    """The program has too many writes; n is their number."""

    def __init__(self, n):
        self.n = n


class Parted(IdleError):
    """The programs are not alike; parting tells a run in which their talks differ."""

    def __init__(self, parting):
        self.parting = parting
