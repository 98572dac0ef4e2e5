"""The errors of the package."""


class SkyError(ValueError):
    """The base class of all errors of the package."""


class BadValue(SkyError):
    """An argument does not have its form; `what` is the name of the parameter."""

    def __init__(self, what):
        self.what = what


class Mismatch(SkyError):
    """Arguments have their forms but do not fit together."""


class Still(SkyError):
    """A cycle that must move is still, or two cycles do not move against each other."""


class Endless(SkyError):
    """There is no finite answer."""


class TooMany(SkyError):
    """More than `limit` would be needed."""

    def __init__(self, limit):
        self.limit = limit


class NoName(SkyError):
    """There is nothing with this name."""

    def __init__(self, name):
        self.name = name


class Taken(SkyError):
    """The name is in use already."""

    def __init__(self, name):
        self.name = name


class Locked(SkyError):
    """A work is locked; `loop` is a lock loop, a list that belongs to this error alone."""

    def __init__(self, loop):
        self.loop = loop


class Looped(SkyError):
    """Links close a loop where none is allowed."""


class Broken(SkyError):
    """A table is broken."""


class ReadError(SkyError):
    """A text cannot be read, for the reason given, at this line and column."""

    def __init__(self, line, column, reason):
        self.line = line
        self.column = column
        self.reason = reason
