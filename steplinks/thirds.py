"""Layings that come as near as two others while the image of the one is written over into that of the other."""

from itertools import permutations

from steplinks.layings import drawn, unlike_entries
from steplinks.lots import Look, add_fault, visit
from steplinks.sheets import places
from steplinks.walks import spread_out, walk_of
from steplinks.web import OPEN

NEAR = 2
# So many layings besides two others are sure to be told if there are any.
ENOUGH = 3


def added_by(write, before, right):
    """How many entries more a laying gainsays in an image behind a write, by the images of both."""
    record, kind, name = write
    if right[record][kind] == before[record][kind]:
        return 1
    return -1 if right[record][kind] == name else 0


def rivals(scheme, one, other, row):
    """The triples (laying, apart, adds) of all plain layings but two, ascending: adds has a number for each write.

    Apart is how many entries of the image of the first one such a laying gainsays; adds tells how many more there are
    behind each write.
    """
    before = drawn(scheme, one)
    found = []
    for rest in permutations(range(1, places(scheme))):
        laying = (0,) + rest
        if laying not in (one, other):
            right = drawn(scheme, laying)
            adds = [added_by(write, before, right) for write in row]
            found.append((laying, len(unlike_entries(right, before)), adds))
    return found


def first_near(apart, adds):
    """The least number of writes behind which a rival is as near as the two others; None if there is none."""
    for many in range(len(adds) + 1):
        if apart + sum(adds[:many]) <= min(many, len(adds) - many):
            return many
    return None


def is_near_in_some(apart, adds):
    """Whether a rival is as near as the two others somewhere in some order of the writes.

    It is nearest of all if first what it gainsays of the first one is written over, then, as far as it takes, what it
    gainsays of both.
    """
    like_one = adds.count(1)
    like_other = adds.count(-1)
    neither = len(adds) - like_one - like_other
    beside = apart - like_other - neither
    return beside <= min(like_one, like_other) and 2 * beside + neither <= like_one + like_other


def look_around(scheme, image, middles):
    """A look at an image with the faults noted that come up in a few steps around some records."""
    look = Look(scheme, image, ENOUGH)
    marks = [OPEN] * len(look.web.claims)
    for middle in middles:
        seen = spread_out(look.web, middle, NEAR, marks)
        for clash in seen.clashes:
            add_fault(look, walk_of(seen, clash))
    return look


def near_besides(scheme, image, middles, most, avoided):
    """A plain laying, none of two, that gainsays at most so many entries of an image; None if there is none."""
    look = look_around(scheme, image, middles)
    for limit in range(most + 1):
        nodes = [(0, [OPEN] * len(look.web.claims))]
        while nodes:
            spent, marks = nodes.pop()
            nodes.extend(visit(look, spent, marks, limit))
            others = [laying for laying in look.found if laying not in avoided]
            if others:
                return others[0]
            look.found = []
    return None
