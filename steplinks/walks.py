"""Walks along what entries say, and the faults that come up on the way out from a record."""

from steplinks.web import GONE


class Spread:
    """What comes up on the way out from a middle, by all claims at once: where records stand, told from it.

    A clash is a row (claim, record, other, rival): by the claim the other would stand beside the record, but the
    rival stands there, or the other, which is the rival then, stands elsewhere.
    """

    def __init__(self, web, middle):
        self.web = web
        self.middle = middle
        self.stands = {middle: 0}
        # The ground takes no place.
        self.taken = {} if middle == web.ground else {0: middle}
        self.depths = {middle: 0}
        self.came = {}
        self.clashes = []


def meet(seen, claim, record, other, place):
    """Note that a claim leads on from a record to another one at a place; tell whether the other is new."""
    known = seen.stands.get(other)
    if known == place:
        return False
    rival = None if other == seen.web.ground else seen.taken.get(place)
    if known is not None:
        seen.clashes.append((claim, record, other, other))
    if rival is not None:
        seen.clashes.append((claim, record, other, rival))
    if known is not None or rival is not None:
        return False
    seen.stands[other] = place
    seen.depths[other] = seen.depths[record] + 1
    seen.came[other] = (claim, record)
    if other != seen.web.ground:
        seen.taken[place] = other
    return True


def edge_beyond(seen, edge, marks):
    """The records that come up one step beyond those of an edge."""
    found = []
    for record in edge:
        here = seen.stands[record]
        for claim, other, onward in seen.web.beside[record]:
            if marks[claim] != GONE and meet(seen, claim, record, other, onward[here]):
                found.append(other)
    return found


def spread_out(web, middle, reach, marks):
    """Go out from a middle, at most so many steps, and no further than up to clashes, by claims that are not gone."""
    seen = Spread(web, middle)
    edge = [middle]
    for _ in range(reach):
        if not edge or seen.clashes:
            break
        edge = edge_beyond(seen, edge, marks)
    return seen


def spreads(web, root, marks):
    """What comes up on the ways out from a root, and then from each record that did not come up before."""
    met = {}
    found = []
    for record in [root] + list(range(web.ground)):
        if record not in met:
            seen = spread_out(web, record, web.ground + 1, marks)
            met.update(seen.stands)
            found.append(seen)
    return found


def trail(seen, record):
    """The steps (claim, from, to) on the way from the middle to a record."""
    found = []
    last = record
    while last != seen.middle:
        claim, before = seen.came[last]
        found.append((claim, before, last))
        last = before
    return list(reversed(found))


def walk_of(seen, clash):
    """The steps (claim, from, to) of the fault that a clash shows, from the rival on to the other."""
    claim, record, other, rival = clash
    out = trail(seen, record) + [(claim, record, other)]
    home = trail(seen, rival)
    shared = 0
    # The clash's own step is none on the way to the rival, so that the two ways part at it if not ahead of it.
    while shared < len(home) and home[shared] == out[shared]:
        shared += 1
    return [(way, end, start) for way, start, end in reversed(home[shared:])] + out[shared:]


def least_walk(seen):
    """The walk of a clash whose two records are the fewest steps from the middle, None if there is no clash."""
    if not seen.clashes:
        return None
    lengths = [seen.depths[record] + seen.depths[rival] for claim, record, other, rival in seen.clashes]
    return walk_of(seen, seen.clashes[lengths.index(min(lengths))])
