"""The errors that the package raises."""


class OfficeError(ValueError):
    """Any failure that the package reports."""


class NoOffice(OfficeError):
    """The value is not an office."""


class NoDesk(OfficeError):
    """The value is not a desk of the office."""


class NoSeating(OfficeError):
    """The value is not a seating of the office."""


class NoOrder(OfficeError):
    """The value is not an order for the seating."""


class NoName(OfficeError):
    """The value is not a name that may stand there."""


class NoCalls(OfficeError):
    """The value is not a number of calls that may stand there."""


class TooMany(OfficeError):
    """There is more of something than the function takes; size tells how much."""

    def __init__(self, size):
        super().__init__(f"too many: {size}")
        self.size = size


class NotAlike(OfficeError):
    """The names are not the same."""


class NoNumber(OfficeError):
    """The value is not a number that may stand there."""


class NotRecurrent(OfficeError):
    """The state does not come again."""


class NoDesks(OfficeError):
    """The value is not a tuple of desks of the office."""


class Impossible(OfficeError):
    """No seating leads to what was observed; index tells the first person that does not fit."""

    def __init__(self, index):
        super().__init__(f"impossible at {index}")
        self.index = index


class NoCosts(OfficeError):
    """The value is not a tuple of costs."""


class Full(OfficeError):
    """There is no room for another desk."""


class Nothing(OfficeError):
    """There is nothing to undo."""


class NoText(OfficeError):
    """The value is not the text of an office and a seating."""


class NoRow(OfficeError):
    """The value is not a row that the console can execute."""
