"""The nearest laying of an image of a ring with damage all along.

There, as many claims may be false in all as are far too many to be looked through lot by lot. But faults come up in a
few steps, and fall into groups that have little to do with one another. So the lightest claims that hit all faults
that are known are told, and then the faults that are left without these. When there are none, no laying can gainsay
less than one in which all else holds.
"""

from steplinks.errors import TooMany
from steplinks.filling import Sheet, fillings
from steplinks.hitting import least_hit
from steplinks.mending import MOST_LAYINGS
from steplinks.walks import Spread, least_walk, meet, spread_out, spreads, walk_of
from steplinks.web import GONE, OPEN, Web, links_said, numbers_said

NEAR = 2
FAR = 3
MOST_LOTS = 3600


class Damage:
    """What is known of an image: what its entries say, and the tuples of claims that can't all hold."""

    def __init__(self, scheme, image):
        said = links_said(scheme, image)
        said.update(numbers_said(scheme, image))
        self.web = Web(scheme, said)
        self.sheet = Sheet(scheme, self.web.rows)
        # Without numbers, record 0 stands at place 0 in each plain laying.
        self.root = self.web.ground if scheme.numbers > 0 else 0
        self.known = {}


def spread_by_links(web, middle, reach, marks):
    """Go out from a middle like spread_out, but never to the ground, beside which all records are near."""
    seen = Spread(web, middle)
    edge = [middle]
    for _ in range(reach):
        if seen.clashes:
            break
        beyond = []
        for record in edge:
            here = seen.stands[record]
            for claim, other, onward in web.beside[record]:
                if other != web.ground and marks[claim] != GONE and meet(seen, claim, record, other, onward[here]):
                    beyond.append(other)
        edge = beyond
    return seen


def note_walks(damage, walks):
    """Note the faults that some walks show; tell whether there is one that was not known."""
    many = len(damage.known)
    for walk in walks:
        damage.known[tuple(sorted({step[0] for step in walk}))] = True
    return len(damage.known) > many


def note_near(damage, reach, marks):
    """Note all faults that come up so few steps around any record; tell whether there is one that was not known."""
    middles = list(range(damage.web.ground + 1))
    around = [spread_by_links(damage.web, middle, reach, marks) for middle in middles]
    return note_walks(damage, [walk_of(seen, clash) for seen in around for clash in seen.clashes])


def note_far(damage, parts, marks):
    """Note a fault of each part that has one, and short ones around it; tell whether there is one."""
    walks = [least_walk(seen) for seen in parts if seen.clashes]
    around = [spread_out(damage.web, step[1], len(walk), marks) for walk in walks for step in walk]
    return note_walks(damage, walks + [least_walk(seen) for seen in around if seen.clashes])


def laying_left(damage, marks):
    """A laying in which all claims hold that are not gone; None, with faults noted that tell why, if there is none."""
    if note_near(damage, NEAR, marks) or note_near(damage, FAR, marks):
        return None
    parts = spreads(damage.web, damage.root, marks)
    if note_far(damage, parts, marks):
        return None
    found = fillings(damage.sheet, [seen.stands for seen in parts], 1)
    if found:
        return found[0]
    # The parts don't fit together, so that one of all claims that are left in them has to go.
    damage.known[tuple([claim for claim, mark in enumerate(marks) if mark != GONE])] = True
    return None


def nearest_all_along(scheme, image, most):
    """A plain laying that gainsays as few entries of an image as any; None if these are more than so many."""
    damage = Damage(scheme, image)
    marks = [OPEN] * len(damage.web.claims)
    for _ in range(MOST_LOTS):
        found = laying_left(damage, marks)
        if found is not None:
            return found
        hit = least_hit(list(damage.known), damage.web.weights, most)
        if hit is None:
            return None
        marks = [GONE if claim in hit[1] else OPEN for claim in range(len(marks))]
    raise TooMany(MOST_LAYINGS)
