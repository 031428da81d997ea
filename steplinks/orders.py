"""Orders of writes: whether a third laying comes as near as what was and what is to be, wherever they are cut."""

from steplinks.checks import between
from steplinks.edits import are_writes, behind_writes, check_bare_ring, seams, writes_between
from steplinks.errors import NoRow, TooMany
from steplinks.layings import check_laying, drawn, is_plain, plain, unlike_entries
from steplinks.mending import FEW_PLACES
from steplinks.sheets import places
from steplinks.thirds import first_near, is_near_in_some, near_besides, rivals

MOST_WRITES = 9
SAFE_SEAMS = 3


def check_pair(scheme, one, other):
    """Raise the error that is due unless two layings of a ring without numbers are given."""
    check_bare_ring(scheme)
    check_laying(scheme, one)
    check_laying(scheme, other)


def all_writes(scheme, one, other):
    """The ascending tuple of the writes between two layings."""
    return writes_between(drawn(scheme, one), drawn(scheme, other))


def check_row(scheme, one, other, row):
    """Raise NoRow unless a row has all the writes between two layings, each once."""
    if not are_writes(scheme, row) or tuple(sorted(row)) != all_writes(scheme, one, other):
        raise NoRow()


def near_behind(scheme, one, other, done, most):
    """A plain laying, alike neither of two, that gainsays at most so many entries behind some writes; or None."""
    image = behind_writes(drawn(scheme, one), done)
    # All that contradicts itself has a part in what was written.
    middles = sorted({record for write in done for record in (write[0], write[2])})
    return near_besides(scheme, image, middles, most, (plain(scheme, one), plain(scheme, other)))


def third_of_few(scheme, one, other, row):
    """What third gives, by all layings."""
    best = None
    for laying, apart, adds in rivals(scheme, plain(scheme, one), plain(scheme, other), row):
        many = first_near(apart, adds)
        if many is not None and (best is None or many < best[0]):
            best = (many, laying)
    return best


def third_of_many(scheme, one, other, row):
    """What third gives, by what can be gainsaid behind the first writes."""
    for many in range(1, len(row)):
        found = near_behind(scheme, one, other, row[:many], min(many, len(row) - many))
        if found is not None:
            return (many, found)
    return None


def third(scheme, one, other, row):
    """A pair of the least number of writes behind which a third laying is as near as both, and such a one; or None."""
    check_pair(scheme, one, other)
    check_row(scheme, one, other, row)
    if places(scheme) <= FEW_PLACES:
        return third_of_few(scheme, one, other, row)
    return third_of_many(scheme, one, other, row)


def is_third(scheme, one, other, row, thing):
    """Whether a thing is a number of writes and a third laying that is as near as both behind these."""
    check_pair(scheme, one, other)
    check_row(scheme, one, other, row)
    if not isinstance(thing, tuple) or len(thing) != 2:
        return False
    many, laying = thing
    if not between(many, 0, len(row)) or not is_plain(scheme, laying):
        return False
    if laying in (plain(scheme, one), plain(scheme, other)):
        return False
    image = behind_writes(drawn(scheme, one), row[:many])
    return len(unlike_entries(drawn(scheme, laying), image)) <= min(many, len(row) - many)


def goes_round(scheme):
    """Whether all steps lead to the next place or to the one ahead."""
    return all([step in (1, places(scheme) - 1) for step in scheme.steps])


def any_row(scheme, one, other):
    """Whether no row of the writes between two layings has a third."""
    check_pair(scheme, one, other)
    if places(scheme) <= FEW_PLACES:
        row = all_writes(scheme, one, other)
        found = rivals(scheme, plain(scheme, one), plain(scheme, other), row)
        return not [laying for laying, apart, adds in found if is_near_in_some(apart, adds)]
    if not goes_round(scheme):
        raise TooMany(FEW_PLACES)
    # By the fact of point 13.
    return len(seams(scheme, one, other)) <= SAFE_SEAMS


class Crossing:
    """What is written between two layings, and the rivals of both that come near somewhere, if places are few."""

    def __init__(self, scheme, one, other):
        self.scheme = scheme
        self.pair = (one, other)
        self.row = all_writes(scheme, one, other)
        self.near = []
        if places(scheme) <= FEW_PLACES:
            found = rivals(scheme, plain(scheme, one), plain(scheme, other), self.row)
            self.near = [(apart, adds) for laying, apart, adds in found if is_near_in_some(apart, adds)]

    def is_barred(self, chosen):
        """Whether a third laying is as near as both behind the writes with some indexes."""
        most = min(len(chosen), len(self.row) - len(chosen))
        if places(self.scheme) <= FEW_PLACES:
            return any([apart + sum([adds[at] for at in chosen]) <= most for apart, adds in self.near])
        done = [self.row[at] for at in chosen]
        return near_behind(self.scheme, self.pair[0], self.pair[1], done, most) is not None


def safe_order(crossing):
    """The indexes of the writes in an order in which none of what is written in between is barred; None if none is."""
    every = range(len(crossing.row))
    seen = {(): True}
    begun = [()]
    while begun:
        order = begun.pop()
        if len(order) == len(every):
            return order
        for at in reversed(every):
            done = tuple(sorted(order + (at,)))
            if at not in order and done not in seen:
                seen[done] = True
                if not crossing.is_barred(done):
                    begun.append(order + (at,))
    return None


def safe_row(scheme, one, other):
    """A row of the writes between two layings that has no third, None if there is none."""
    check_pair(scheme, one, other)
    crossing = Crossing(scheme, one, other)
    if len(crossing.row) > MOST_WRITES:
        raise TooMany(MOST_WRITES)
    order = safe_order(crossing)
    return None if order is None else tuple([crossing.row[at] for at in order])
