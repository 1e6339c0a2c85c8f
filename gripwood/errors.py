"""The refusals: each kind has a class of its own, and a word by which it is told."""


class WoodError(ValueError):
    """Any refusal: `word` is the same for all of one kind, `why` only words the message."""

    def __init__(self, word="refused", why=""):
        ValueError.__init__(self, why or word)
        self.word = word


class BadCell(WoodError):
    """Cells that are none, come twice or lie out of bounds."""

    def __init__(self, why=""):
        WoodError.__init__(self, "bad cell", why)


class BadWay(WoodError):
    """A text that is none of the six ways."""

    def __init__(self, why=""):
        WoodError.__init__(self, "bad way", why)


class BadLine(WoodError):
    """A text that is none of the three lines."""

    def __init__(self, why=""):
        WoodError.__init__(self, "bad line", why)


class BadTurn(WoodError):
    """A triple of texts that is none of the turns."""

    def __init__(self, why=""):
        WoodError.__init__(self, "bad turn", why)


class BadMeasure(WoodError):
    """A peg that would be too short or too long."""

    def __init__(self, why=""):
        WoodError.__init__(self, "bad measure", why)


class NoBlock(WoodError):
    """A number that is no block."""

    def __init__(self, why=""):
        WoodError.__init__(self, "no block", why)


class NoPile(WoodError):
    """A number that is no pile."""

    def __init__(self, why=""):
        WoodError.__init__(self, "no pile", why)


class NoPeg(WoodError):
    """A number that is no peg."""

    def __init__(self, why=""):
        WoodError.__init__(self, "no peg", why)


class NoPlan(WoodError):
    """A number that is no kept plan."""

    def __init__(self, why=""):
        WoodError.__init__(self, "no plan", why)


class NoWood(WoodError):
    """A cell that no block has."""

    def __init__(self, why=""):
        WoodError.__init__(self, "no wood", why)


class Loose(WoodError):
    """Cells that do not hang together."""

    def __init__(self, why=""):
        WoodError.__init__(self, "loose", why)


class Touch(WoodError):
    """A cell that is taken already: `cell`, the least such one."""

    def __init__(self, cell=None):
        WoodError.__init__(self, "touch")
        self.cell = cell


class Held(WoodError):
    """Wood that a peg goes through: `by`, the least number of such a peg."""

    def __init__(self, by=None):
        WoodError.__init__(self, "held")
        self.by = by


class Last(WoodError):
    """The only cell of a block."""

    def __init__(self, why=""):
        WoodError.__init__(self, "last", why)


class NoCut(WoodError):
    """A cut that leaves all cells on one side."""

    def __init__(self, why=""):
        WoodError.__init__(self, "no cut", why)


class Same(WoodError):
    """Two things that would have to be unlike, and are one."""

    def __init__(self, why=""):
        WoodError.__init__(self, "same", why)


class Whole(WoodError):
    """A group that has no block, or all of them."""

    def __init__(self, why=""):
        WoodError.__init__(self, "whole", why)


class Torn(WoodError):
    """A group that has only a part of a body."""

    def __init__(self, why=""):
        WoodError.__init__(self, "torn", why)


class Barred(WoodError):
    """A line that is barred."""

    def __init__(self, why=""):
        WoodError.__init__(self, "barred", why)


class NotBarred(WoodError):
    """A line that is not barred."""

    def __init__(self, why=""):
        WoodError.__init__(self, "not barred", why)


class Stopped(WoodError):
    """A group that does not go out: `other` is not of it and lies ahead of `one`, which is."""

    def __init__(self, one=None, other=None):
        WoodError.__init__(self, "stopped")
        self.one = one
        self.other = other


class TooMany(WoodError):
    """More of something than there may be."""

    def __init__(self, why=""):
        WoodError.__init__(self, "too many", why)


class BadPull(WoodError):
    """A row of pulls or pushes that cannot be done: `at`, the place of the first such one."""

    def __init__(self, at=None):
        WoodError.__init__(self, "bad pull")
        self.at = at


class NothingBack(WoodError):
    """No deed is there to be undone."""

    def __init__(self, why=""):
        WoodError.__init__(self, "nothing back", why)


class NothingForth(WoodError):
    """No deed is there to be redone."""

    def __init__(self, why=""):
        WoodError.__init__(self, "nothing forth", why)


class BadText(WoodError):
    """A text that writes nothing that can be read."""

    def __init__(self, why=""):
        WoodError.__init__(self, "bad text", why)
