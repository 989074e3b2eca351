"""The errors of the package: all of them stand directly below ReachError."""


class ReachError(ValueError):
    """The base of all errors of the package."""


class BadNumber(ReachError):
    """A number that is none, or lies beyond its bounds."""

    def __init__(self, value):
        self.value = value


class BadLot(ReachError):
    """What no lot can be made of, or what is no lot."""

    def __init__(self, part):
        self.part = part


class BadWheel(ReachError):
    """What no wheel can be made of."""

    def __init__(self, part):
        self.part = part


class BadMeter(ReachError):
    """What no meter can be made of, or what is no meter."""

    def __init__(self, part):
        self.part = part


class BadMark(ReachError):
    """Marks that are no reading of their meter."""

    def __init__(self, at):
        self.at = at


class BadValue(ReachError):
    """A value that is none, or not of the kind that is asked."""

    def __init__(self, value):
        self.value = value


class BadGear(ReachError):
    """What no train of gears can be made of."""

    def __init__(self, at):
        self.at = at


class BadShelf(ReachError):
    """What cannot stand on a shelf, or what is no shelf."""

    def __init__(self, part):
        self.part = part


class BadLog(ReachError):
    """An entry of a log that is none."""

    def __init__(self, at):
        self.at = at


class BadFollower(ReachError):
    """What no follower can be made of."""

    def __init__(self, part):
        self.part = part


class BadDeed(ReachError):
    """A deed among several that cannot be done."""

    def __init__(self, at):
        self.at = at


class BadText(ReachError):
    """A word of a text that cannot stand where it stands, or is missing."""

    def __init__(self, line, word):
        self.line = line
        self.word = word


class BadLine(ReachError):
    """A word of a desk's line that cannot stand where it stands, or is missing."""

    def __init__(self, word):
        self.word = word


class NoMember(ReachError):
    """A lot without members was asked for one."""


class NoName(ReachError):
    """What is no name on the shelf."""

    def __init__(self, name):
        self.name = name


class NoPlace(ReachError):
    """What is no index."""

    def __init__(self, at):
        self.at = at


class Unlike(ReachError):
    """Two that do not go together."""

    def __init__(self, part):
        self.part = part


class Unfit(ReachError):
    """No value would be left, or none fits."""


class Nothing(ReachError):
    """There is nothing to take back or to do again."""


class TooMany(ReachError):
    """More of them than are let."""

    def __init__(self, what, most):
        self.what = what
        self.most = most
