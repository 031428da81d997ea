"""The nearest layings of a small image, and all near ones, by trying them all."""

from steplinks.sheets import opposite, places, shifted


def looks_back(scheme):
    """For each place the pairs (kind, place ahead of it) that a link leads to, and those that one leads from."""
    many = places(scheme)
    leads_to = [[] for _ in range(many)]
    leads_from = [[] for _ in range(many)]
    for kind, step in enumerate(scheme.steps):
        onward = shifted(scheme, step)
        backward = shifted(scheme, opposite(scheme.moduli, step))
        for place in range(many):
            if onward[place] < place:
                leads_to[place].append((kind, onward[place]))
            if backward[place] < place:
                leads_from[place].append((kind, backward[place]))
    return (leads_to, leads_from)


def against(scheme, image, looks, begun, record):
    """How many entries are gainsaid if a record stands behind those of a laying that is begun, by these together."""
    place = len(begun)
    row = image[record]
    many = len([entry for entry in row[len(scheme.steps):] if entry is not None and entry != place])
    for kind, other in looks[0][place]:
        if row[kind] is not None and row[kind] != begun[other]:
            many += 1
    for kind, other in looks[1][place]:
        entry = image[begun[other]][kind]
        if entry is not None and entry != record:
            many += 1
    return many


def bare(scheme):
    """What every plain laying begins with, as a list of one pair of what it gainsays so far and the laying so far."""
    # Without numbers a laying is plain if record 0 stands at place 0.
    return [(0, ())] if scheme.numbers > 0 else [(0, (0,))]


def led_on_by_one(scheme, image, looks, spent, begun):
    """The pairs likewise that one record more makes of a laying that is begun, and of what it gainsays."""
    return [(spent + against(scheme, image, looks, begun, record), begun + (record,))
            for record in range(places(scheme)) if record not in begun]


def try_all(scheme, image, most, enough):
    """The least number of entries that a plain laying gainsays, and so many of those that do; None if above most."""
    many = places(scheme)
    looks = looks_back(scheme)
    least = most
    found = []
    begun = bare(scheme)
    while begun:
        spent, laying = begun.pop()
        if spent > least:
            continue
        if len(laying) < many:
            begun.extend(led_on_by_one(scheme, image, looks, spent, laying))
        elif spent < least:
            least = spent
            found = [laying]
        elif len(found) < enough:
            found.append(laying)
    return (least, found) if found else None


def all_within(scheme, image, most):
    """The ascending list of all plain layings that gainsay at most so many entries."""
    many = places(scheme)
    looks = looks_back(scheme)
    found = []
    begun = bare(scheme)
    while begun:
        spent, laying = begun.pop()
        if spent <= most and len(laying) < many:
            begun.extend(led_on_by_one(scheme, image, looks, spent, laying))
        elif spent <= most:
            found.append(laying)
    return sorted(found)
