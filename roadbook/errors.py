"""The refusals: a class for each, all of them straight under RoadError."""


class RoadError(ValueError):
    """Any refusal."""


class BadClock(RoadError):
    """No day, minute or moment, or no text of one."""


class BadRule(RoadError):
    """No rule of days, no part of one, or no text of one."""


class TooMany(RoadError):
    """More than there may be."""


class BadName(RoadError):
    """No name."""


class Twice(RoadError):
    """It is there already."""


class NoStop(RoadError):
    """No such stop."""


class NoRule(RoadError):
    """No rule of this name."""


class NoTicket(RoadError):
    """No such ticket."""


class NoTrip(RoadError):
    """No such trip."""


class BadNumber(RoadError):
    """No number, or one out of its bounds."""


class BadCalls(RoadError):
    """No calls of a trip, or calls that don't rise."""


class BadRow(RoadError):
    """A row of a net's text that is refused: its number, and a word that says why."""

    def __init__(self, row, word):
        RoadError.__init__(self, row, word)
        self.row = row
        self.word = word


class NoRun(RoadError):
    """The trip doesn't run on that day."""


class NoPlan(RoadError):
    """A plan that can't be gone: the number of its first such leg, or None."""

    def __init__(self, at):
        RoadError.__init__(self, at)
        self.at = at


class TooLate(RoadError):
    """It lies ahead of now."""


class NoTraveller(RoadError):
    """No such traveller."""


class BadLine(RoadError):
    """No line that a desk knows."""
