"""The refusals, one class for each."""


class DykeError(ValueError):
    """Any refusal."""


class NoRow(DykeError):
    """A thing makes no row, or none of the laying."""


class NoRoll(DykeError):
    """Things make no roll."""


class NoName(DykeError):
    """Nothing is called so, or it is no name."""


class Twice(DykeError):
    """A row of this name is there."""


class TooMany(DykeError):
    """There is no room for one more."""


class NoBreach(DykeError):
    """A row is no breach, or an idle one."""


class NoMend(DykeError):
    """A row is no mend."""


class NoInch(DykeError):
    """The dyke has no such inch at that moment."""


class NoThen(DykeError):
    """There were never so many deeds."""


class Clash(DykeError):
    """Other names that are none, or that make two things one."""


class NoField(DykeError):
    """The laying has no such field."""


class NoOrder(DykeError):
    """A desk knows no such order."""


class NoText(DykeError):
    """A text isn't written as it must be; line is the first wrong one, from 0 on."""

    def __init__(self, line):
        self.line = line
