"""The errors of the package, each one directly under TalkError."""


class TalkError(ValueError):
    """Any error of the package."""


class BadSource(TalkError):
    """An object that is no source, or what bars one, with its place."""

    def __init__(self, place):
        super().__init__(f"bad source at {place}")
        self.place = place


class BadTree(TalkError):
    """An object that is no tree of a method."""


class BadName(TalkError):
    """An object that can be no parameter."""


class NoName(TalkError):
    """A name that is no parameter or variable of the tree."""


class Clash(TalkError):
    """A new name that stands in the tree already."""


class BadProgram(TalkError):
    """An object that is no program, with where it is wrong."""

    def __init__(self, where):
        super().__init__(f"bad program at {where}")
        self.where = where


class BadClass(TalkError):
    """An object that names no class that may stand there."""


class BadSelector(TalkError):
    """An object that is by its form no selector of a method."""


class NoMethod(TalkError):
    """An object that is no selector of a method that is there."""


class BadFields(TalkError):
    """An object that is no tuple of own fields."""


class BadParent(TalkError):
    """A class that cannot become the parent."""


class BadCount(TalkError):
    """An object that is no integer within its bounds."""


class BadMade(TalkError):
    """An object that is no made method."""


class BadText(TalkError):
    """An object that is no text of a made method, with the first wrong row."""

    def __init__(self, row):
        super().__init__(f"bad text at row {row}")
        self.row = row


class BadPlaces(TalkError):
    """An object that is no list of made methods with their classes."""


class BadCodes(TalkError):
    """Codes that are not sound, with the body and the place."""

    def __init__(self, body, place):
        super().__init__(f"bad codes in body {body} at {place}")
        self.body = body
        self.place = place


class NotSound(TalkError):
    """A made method whose codes are not sound."""


class BadWorld(TalkError):
    """An object that is no text of a World."""


class NoObject(TalkError):
    """An object that is no number of an object of the image."""


class Busy(TalkError):
    """A class that is at work and cannot be changed."""


class Late(TalkError):
    """What was waited for has not come in time."""


class BadNumber(TalkError):
    """An object that is no number of an activation."""


class NotThat(TalkError):
    """An activation that is none of a method or Block."""


class BadLog(TalkError):
    """An object that is no log, with the first wrong place."""

    def __init__(self, place):
        super().__init__(f"bad log at {place}")
        self.place = place


class NothingToUndo(TalkError):
    """There is nothing left to take back."""


class BadSchedule(TalkError):
    """An object that is no schedule, with the first wrong place."""

    def __init__(self, place):
        super().__init__(f"bad schedule at {place}")
        self.place = place


class TooMany(TalkError):
    """More than the bound of a size, where no other error is named."""


class BadCommand(TalkError):
    """An object that is no row for a Desk."""
