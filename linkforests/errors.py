"""The errors of the package."""


# No error passes a message on to ValueError: its arguments stay as they were given,
# so that an error is shown as it was created, as in NoIndex(5).


class LinkError(ValueError):
    """What all errors of the package have in common."""


class BadBatch(LinkError):
    """A value is not a batch of actions."""


class BadCount(LinkError):
    """A number is not in its range, or nothing is given."""


class BadJoin(LinkError):
    """The item at this index is not a join; None stands for all of them."""

    def __init__(self, index):
        self.index = index


class BadShape(LinkError):
    """A value is not a shape of the kind that is asked for."""


class BadText(LinkError):
    """The part at this index is wrong; None stands for the whole text."""

    def __init__(self, index):
        self.index = index


class Busy(LinkError):
    """A joiner is asked for a change while it applies a batch."""


class NoBeginning(LinkError):
    """A value is not a beginning of a history."""


class NoHistory(LinkError):
    """A value is not a history or a growth."""


class NoIndex(LinkError):
    """Nothing has this index."""

    def __init__(self, index):
        self.index = index


class NoStart(LinkError):
    """One forest does not grow from another; the reason is an obstacle."""

    def __init__(self, reason):
        self.reason = reason


class NoVersion(LinkError):
    """A joiner has no state with this version."""

    def __init__(self, version):
        self.version = version


class NoVertex(LinkError):
    """A value is not one of the vertices that are asked for."""

    def __init__(self, value):
        self.value = value


class NotBuilt(LinkError):
    """A forest is not built; the vertex is a heavy child."""

    def __init__(self, vertex):
        self.vertex = vertex


class NothingToUndo(LinkError):
    """No action is in effect."""


class Rejected(LinkError):
    """The action at this index of a batch raised an error."""

    def __init__(self, index):
        self.index = index


class SameTree(LinkError):
    """Two vertices are in one tree."""


class SameVertex(LinkError):
    """Two vertices are equal."""


class TooMany(LinkError):
    """There are, or would be, more than the limit."""

    def __init__(self, limit):
        self.limit = limit


class TooManyActions(LinkError):
    """As many actions as the bound allows are in effect."""
