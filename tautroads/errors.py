"""The refusals: each stands straight under RoadError."""


class RoadError(ValueError):
    """Any refusal."""


class NoNet(RoadError):
    """What was handed in as a net is none."""


class NoPlace(RoadError):
    """There is no such place."""


class NoRoad(RoadError):
    """There is no such road."""


class NoWay(RoadError):
    """The list is no way from the one place to the other."""


class NoTaut(RoadError):
    """The net has a ring of length below 0."""


class NoCount(RoadError):
    """There are too few or too many of something that is counted."""


class NoName(RoadError):
    """The text is no name."""


class Twice(RoadError):
    """The name is in use already."""


class NoLength(RoadError):
    """The number is too far from 0 for a road's length."""


class Full(RoadError):
    """There is no room for more."""


class Ring(RoadError):
    """The deed would close a ring of length below 0; the field ring has its roads' names."""

    def __init__(self, why="", names=()):
        # Only the text goes up, so that the error does not hold on to the list handed in.
        RoadError.__init__(self, why)
        self.ring = list(names)


class NoDeed(RoadError):
    """There is no deed to take back or to do again."""


class NoBook(RoadError):
    """There is no book of this name."""


class NoText(RoadError):
    """The text is that of no road or no book."""


class NoLine(RoadError):
    """The line is none that a desk knows."""
