"""The errors of the package: each keeps the value that it is raised for."""


class MeetError(ValueError):
    """What all errors of the package are; `value` is what it was created with."""

    def __init__(self, value):
        self.value = value


class BadHall(MeetError):
    """A text tells no hall; the value is the number of the line, 0 for what is no string."""


class NoPerson(MeetError):
    """The value is not the name of a person of the hall, or the same person again."""


class Alone(MeetError):
    """The person of this name is the only one of the hall."""


class BadEvent(MeetError):
    """The value is not an event of the hall."""


class BadTimeline(MeetError):
    """The value is not a timeline of the hall."""


class BadSaying(MeetError):
    """The value is not a saying of the hall."""


class BadSayings(MeetError):
    """The value is not a tuple of sayings of the hall, or there are too many."""


class Full(MeetError):
    """There would be more sayings than this."""


class NoSaying(MeetError):
    """The value is not the number of a saying."""


class OtherHall(MeetError):
    """The value is a book of another hall."""


class BadCases(MeetError):
    """The value does not tell met or not of each line open."""


class NoTimeline(MeetError):
    """No timeline fits the value."""


class BadClaim(MeetError):
    """The value is not a claim of the hall."""


class BadNumber(MeetError):
    """The value is not the number of an order."""


class BadOrder(MeetError):
    """The value is not the order of a timeline that fits."""


class BadOffers(MeetError):
    """The value is not a tuple of offers."""


class BadWishes(MeetError):
    """The value is not a tuple of wishes."""


class Contrary(MeetError):
    """No timeline would fit the diary with this saying; the value is a tree."""


class NothingToUndo(MeetError):
    """No deed of the diary stands."""


class NothingToRedo(MeetError):
    """No deed of the diary was taken back."""


class NoTrial(MeetError):
    """No block of a trial is entered."""


class BadJournal(MeetError):
    """A text is no journal; the value is the number of the line, 0 for what is no string."""


class BadLine(MeetError):
    """The value is not a line that a desk takes."""
