"""The errors of the package; each keeps what it is made with."""


class HeldError(ValueError):
    """What all errors of the package are; it is never raised itself."""


class Clash(HeldError):
    """There is no MERGE; groups is the LOT of the groups that CLASH."""

    def __init__(self, groups):
        self.groups = groups


class NoCommand(HeldError):
    """A line is no command of the desk."""

    def __init__(self, line):
        self.line = line


class NoName(HeldError):
    """A name is that of no branch."""

    def __init__(self, name):
        self.name = name


class NoStand(HeldError):
    """A BOOK has no GOOD STAND; paper is the proof."""

    def __init__(self, paper):
        self.paper = paper


class NoText(HeldError):
    """A text cannot be read; line is the first place at which it is wrong."""

    def __init__(self, line):
        self.line = line


class NoVersion(HeldError):
    """An integer is the index of no VERSION."""

    def __init__(self, index):
        self.index = index


class NotGood(HeldError):
    """A STAND is not GOOD; rule is the index of a RULE that it breaks."""

    def __init__(self, rule):
        self.rule = rule


class NotInside(HeldError):
    """A STAND is not where it has to be."""


class Nothing(HeldError):
    """There is nothing of what was asked for."""


class TooMany(HeldError):
    """There is more to look at than most."""

    def __init__(self, most):
        self.most = most


class Wrong(HeldError):
    """The argument at this place is not as described."""

    def __init__(self, place):
        self.place = place
