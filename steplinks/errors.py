"""All errors of the package."""


class LinkError(ValueError):
    """Anything that the package refuses."""


class NoPlace(LinkError):
    """What should be a place is none of the scheme's places."""


class NoLaying(LinkError):
    """What should be a laying is none of the scheme's layings."""


class NoImage(LinkError):
    """What should be an image has not the form of the scheme's images."""


class NoKinds(LinkError):
    """What should be kinds is no ascending tuple of kinds of links."""


class NoNumber(LinkError):
    """What should be a number is none, or is out of its bounds."""


class NoRecord(LinkError):
    """What should be a record is none."""


class NotRing(LinkError):
    """The scheme is no ring of the kind that is asked for."""


class NotWide(LinkError):
    """The ring is too small, or its links say too little, for mending by windows."""


class NoEdit(LinkError):
    """What should be an edit is none of the layings' edits."""


class NoRow(LinkError):
    """What should be a row is none."""


class NoValue(LinkError):
    """What should be a value is none."""


class Full(LinkError):
    """No record of the store is free."""


class NoMany(LinkError):
    """There are not so many rows."""


class NoOrder(LinkError):
    """A function told something else than an order of the writes."""


class Fallen(LinkError):
    """The store fell amid an edit."""


class Asleep(LinkError):
    """The store is asleep until it is woken."""


class NoKind(LinkError):
    """What should be a kind is none."""


class NoEntry(LinkError):
    """What should be an entry is none."""


class NothingDone(LinkError):
    """There is nothing to take back."""


class TooMany(LinkError):
    """More would have to be told, or looked through, than `most`."""

    def __init__(self, most):
        self.most = most


class BadScheme(LinkError):
    """`part` of what should be a scheme is wrong."""

    def __init__(self, part):
        self.part = part


class NotSure(LinkError):
    """So much may be wrong that the least `distance` leaves more than one reading."""

    def __init__(self, distance):
        self.distance = distance


class BadText(LinkError):
    """`line` of a text, counted from 1, is wrong."""

    def __init__(self, line):
        self.line = line
