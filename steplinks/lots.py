"""The nearest layings of an image, by the lots of claims that they gainsay.

A laying gainsays a claim of each fault. So lots are built from the faults that come up; what is left then falls into
parts that stand as the claims in them say, and these are fitted into the sheet. Lots of the least weight come first.
"""

from steplinks.cuts import weak_claims
from steplinks.filling import Sheet, fillings
from steplinks.walks import least_walk, spread_out, spreads, trail, walk_of
from steplinks.web import GONE, KEPT, OPEN, Web, links_said, numbers_said

NEAR = 2


class Look:
    """What is known of an image that is looked through: faults, detours, and the layings that were found.

    A fault is a tuple of claims that can't all hold. A detour of a claim is one of others that say together the same.
    """

    def __init__(self, scheme, image, enough):
        said = links_said(scheme, image)
        said.update(numbers_said(scheme, image))
        self.web = Web(scheme, said)
        self.sheet = Sheet(scheme, self.web.rows)
        # Without numbers, record 0 stands at place 0 in each plain laying.
        self.root = self.web.ground if scheme.numbers > 0 else 0
        self.enough = enough
        self.faults = []
        self.known = {}
        self.detours = {}
        self.found = []
        self.later = None


def add_fault(look, walk):
    """Note the fault that a walk shows, unless it is known."""
    claims = tuple(sorted([step[0] for step in walk]))
    if claims not in look.known:
        look.known[claims] = True
        look.faults.append(claims)


def add_near_faults(look):
    """Note all faults that come up in a few steps around any record, so that damage in many places is seen at once."""
    marks = [OPEN] * len(look.web.claims)
    for middle in range(look.web.ground + 1):
        seen = spread_out(look.web, middle, NEAR, marks)
        for clash in seen.clashes:
            add_fault(look, walk_of(seen, clash))


def add_faults_left(look, parts, marks):
    """Note faults among the claims that are not gone, short ones around those that come up; tell if there are any."""
    walks = [least_walk(seen) for seen in parts if seen.clashes]
    for walk in walks:
        add_fault(look, walk)
        for step in walk:
            around = spread_out(look.web, step[1], len(walk), marks)
            if around.clashes:
                add_fault(look, least_walk(around))
    return len(walks) > 0


def near_detours(web, claim):
    """The detours of a claim by two or three others."""
    one, other, offset = web.claims[claim]
    last = {}
    for at, record, onward in web.beside[other]:
        last.setdefault(record, []).append((at, onward[offset]))
    ways = [(record, onward[0], (at,)) for at, record, onward in web.beside[one]]
    longer = [(record, onward[place], (first[0], at)) for start, place, first in ways
              for at, record, onward in web.beside[start]]
    found = {}
    for start, place, way in ways + longer:
        for at, target in last.get(start, []):
            detour = tuple(sorted(set(way + (at,))))
            if place == target and len(detour) == len(way) + 1 and claim not in detour:
                found[detour] = True
    return list(found)


def detours_of(look, claim):
    """The known detours of a claim."""
    if claim not in look.detours:
        look.detours[claim] = near_detours(look.web, claim)
    return look.detours[claim]


def gone_claims(marks):
    """The claims that are gone."""
    return [claim for claim, mark in enumerate(marks) if mark == GONE]


def add_detours_left(look, parts, marks):
    """Note detours by claims that are not gone of those that are; tell whether there are any."""
    found = False
    for claim in gone_claims(marks):
        one, other, _ = look.web.claims[claim]
        for seen in parts:
            if one in seen.stands and look.web.onward[claim][seen.stands[one]] == seen.stands.get(other):
                around = spread_out(look.web, one, look.web.ground + 1, marks)
                detours_of(look, claim).append(tuple([step[0] for step in trail(around, other)]))
                found = True
    return found


def open_claims(claims, marks):
    """Those of some claims that are open; None if one of them is gone."""
    found = []
    for claim in claims:
        if marks[claim] == GONE:
            return None
        if marks[claim] == OPEN:
            found.append(claim)
    return found


def open_faults(look, marks):
    """The open claims of each known fault that has none that is gone, those with the fewest first.

    What is gone is gainsaid, so that what says the same can't hold: a detour of a gone claim is like a fault.
    """
    faults = list(look.faults)
    for claim in gone_claims(marks):
        faults.extend(detours_of(look, claim))
    rows = [open_claims(claims, marks) for claims in faults]
    return sorted([row for row in rows if row is not None], key=len)


def least_need(look, faults):
    """A weight that claims of all these faults have at least: each fault uses up some of its claims' weights."""
    left = list(look.web.weights)
    need = 0
    for row in faults:
        part = min([left[claim] for claim in row])
        if part > 0:
            need += part
            for claim in row:
                left[claim] -= part
    return need


def by_use(faults):
    """The claims of the first of some faults, those that are in the most of all first."""
    uses = {claim: 0 for claim in faults[0]}
    for row in faults:
        for claim in row:
            if claim in uses:
                uses[claim] += 1
    return sorted(faults[0], key=lambda claim: -uses[claim])


def nodes_by(look, spent, marks, claims):
    """Nodes, the last one first, in each of which one of some claims goes and the ones ahead of it are kept."""
    found = []
    kept = list(marks)
    for claim in claims:
        gone = list(kept)
        gone[claim] = GONE
        found.append((spent + look.web.weights[claim], gone))
        kept[claim] = KEPT
    return list(reversed(found))


def put_off(look, weight):
    """Note that lots that were passed over weigh at least so much."""
    if look.later is None or weight < look.later:
        look.later = weight


def split_by_faults(look, spent, marks, faults, limit):
    """The nodes that the faults of a node split it into, if it has lots of no more weight than the limit."""
    if not faults[0]:
        return []
    need = spent + least_need(look, faults)
    if need > limit:
        put_off(look, need)
        return []
    return nodes_by(look, spent, marks, by_use(faults))


def visit(look, spent, marks, limit):
    """Look at a node: the lots with the claims that are gone and without those that are kept; tell its own nodes."""
    if spent > limit:
        put_off(look, spent)
        return []
    faults = open_faults(look, marks)
    if faults:
        return split_by_faults(look, spent, marks, faults, limit)
    parts = spreads(look.web, look.root, marks)
    if add_faults_left(look, parts, marks) or add_detours_left(look, parts, marks):
        return [(spent, marks)]
    put_off(look, limit + 1)
    if spent < limit:
        # No laying has a lot of less weight, so that these parts don't fit together: one of them has to fall apart.
        return nodes_by(look, spent, marks, weak_claims(look.web, marks, limit - spent))
    stands = [seen.stands for seen in parts]
    look.found.extend(fillings(look.sheet, stands, look.enough - len(look.found)))
    return []


def look_through(scheme, image, most, enough):
    """The least number of entries that a plain laying gainsays, and so many of those that do; None if above most."""
    look = Look(scheme, image, enough)
    add_near_faults(look)
    limit = 0
    while limit is not None and limit <= most:
        look.later = None
        nodes = [(0, [OPEN] * len(look.web.claims))]
        while nodes and len(look.found) < enough:
            spent, marks = nodes.pop()
            nodes.extend(visit(look, spent, marks, limit))
        if look.found:
            return (limit, look.found)
        limit = look.later
    return None
