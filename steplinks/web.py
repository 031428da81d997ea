"""What the entries of an image say of two records each, that the one stands so many places on from the other."""

from steplinks.sheets import opposite, places, shifted

# What is settled of a claim: nothing, that it is gainsaid, or that it holds.
OPEN = 0
GONE = 1
KEPT = 2


def links_said(scheme, image):
    """What links say: a dict from claims to the lists of the entries that make them.

    A claim is a triple (one, other, offset): the other stands so many places on from the one. Of the two that
    say the same, the lesser one stands for both.
    """
    found = {}
    for kind, step in enumerate(scheme.steps):
        back = opposite(scheme.moduli, step)
        for record, row in enumerate(image):
            named = row[kind]
            if named is not None:
                claim = min((record, named, step), (named, record, back))
                found.setdefault(claim, []).append((record, kind))
    return found


def numbers_said(scheme, image):
    """What numbers say, likewise: claims of the ground, which counts as one record more that stands at place 0."""
    ground = places(scheme)
    links = len(scheme.steps)
    found = {}
    for record, row in enumerate(image):
        for kind in range(links, links + scheme.numbers):
            if row[kind] is not None:
                found.setdefault((ground, record, row[kind]), []).append((record, kind))
    return found


class Web:
    """The claims that some entries make, told by their indexes, and who has a part in them.

    A list that leads from places to others has at each place the one that it leads to. Such lists are `rows`, one
    for each offset, and `onward`, one for each claim. For each record, and for the ground behind them, `beside` has
    the triples of a claim, the record at its other end, and the list that leads there.
    """

    def __init__(self, scheme, said):
        self.ground = places(scheme)
        self.claims = list(said)
        self.weights = [len(said[claim]) for claim in self.claims]
        self.rows = [shifted(scheme, place) for place in range(self.ground)]
        self.onward = [self.rows[claim[2]] for claim in self.claims]
        self.beside = [[] for _ in range(self.ground + 1)]
        for at, (one, other, offset) in enumerate(self.claims):
            self.beside[one].append((at, other, self.rows[offset]))
            self.beside[other].append((at, one, self.rows[opposite(scheme.moduli, offset)]))
