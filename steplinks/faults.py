"""Faults: walks along the links of an image that contradict themselves."""

from steplinks.checks import between
from steplinks.layings import check_image
from steplinks.sheets import opposite, places, shifted
from steplinks.walks import least_walk, spread_out, spreads
from steplinks.web import OPEN, Web, links_said


def shortest_walk(web):
    """The steps (claim, from, to) of a fault of the fewest steps, None if there is no fault."""
    marks = [OPEN] * len(web.claims)
    walks = [least_walk(seen) for seen in spreads(web, 0, marks) if seen.clashes]
    if not walks:
        return None
    best = walks[0]
    # Each fault comes up half its length out from its own middle, and what comes up ahead of it is no longer.
    for middle in range(web.ground):
        walk = least_walk(spread_out(web, middle, len(best) // 2, marks))
        if walk is not None and len(walk) < len(best):
            best = walk
    return best


def fault(scheme, image):
    """A walk of the fewest steps that contradicts itself, None if there is none."""
    check_image(scheme, image)
    said = links_said(scheme, image)
    web = Web(scheme, said)
    walk = shortest_walk(web)
    if walk is None:
        return None
    row = []
    for claim, start, _ in walk:
        record, kind = said[web.claims[claim]][0]
        row.append((record, kind, record == start))
    return (walk[0][1], tuple(row))


def is_step(scheme, image, thing):
    """Whether a thing is a triple of an entry of a kind of links that can be read, and a flag."""
    if not isinstance(thing, tuple) or len(thing) != 3:
        return False
    record, kind, ahead = thing
    if not between(record, 0, len(image) - 1) or not between(kind, 0, len(scheme.steps) - 1):
        return False
    return isinstance(ahead, bool) and image[record][kind] is not None


def is_row(scheme, image, thing):
    """Whether a thing is a tuple of steps, one or more."""
    if not isinstance(thing, tuple) or not thing:
        return False
    return all([is_step(scheme, image, step) for step in thing])


def is_fault(scheme, image, thing):
    """Whether a thing is a walk that contradicts itself."""
    check_image(scheme, image)
    if not isinstance(thing, tuple) or len(thing) != 2:
        return False
    first, row = thing
    if not between(first, 0, places(scheme) - 1) or not is_row(scheme, image, row):
        return False
    on = [shifted(scheme, step) for step in scheme.steps]
    back = [shifted(scheme, opposite(scheme.moduli, step)) for step in scheme.steps]
    here = first
    total = 0
    for record, kind, ahead in row:
        start, end = (record, image[record][kind]) if ahead else (image[record][kind], record)
        if start != here:
            return False
        here = end
        total = on[kind][total] if ahead else back[kind][total]
    return (here == first) != (total == 0)
