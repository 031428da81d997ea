"""The lightest claims of which each of some faults has one.

Faults are tuples of claims, and claims are told by integers; each claim has its weight. Sets of faults are told by
integers in which their bits are set.
"""


def uses_of(faults):
    """For each claim of some faults the set of the faults that it is in."""
    found = {}
    for at, fault in enumerate(faults):
        for claim in fault:
            found[claim] = found.get(claim, 0) | (1 << at)
    return found


def without_wider(faults):
    """Some faults without those that have all claims of another one, each once: what hits this one hits them, too."""
    rows = sorted(faults, key=len)
    uses = uses_of(rows)
    wider = 0
    for at, fault in enumerate(rows):
        if not (wider >> at) & 1:
            held = uses[fault[0]]
            for claim in fault:
                held = held & uses[claim]
            wider = wider | (held & ~(1 << at))
    return [fault for at, fault in enumerate(rows) if not (wider >> at) & 1]


def is_beaten(claim, rival, uses, weights):
    """Whether another claim is no heavier than one and hits all that it hits; of two like ones the greater one is."""
    if rival == claim or weights[rival] > weights[claim] or uses[claim] & ~uses[rival]:
        return False
    return weights[rival] < weights[claim] or uses[rival] != uses[claim] or rival < claim


def without_beaten(faults, weights):
    """Some faults without the claims in them for which another one of the same faults can stand."""
    uses = uses_of(faults)
    home = {claim: fault for fault in faults for claim in fault}
    beaten = {}
    for claim in uses:
        for rival in home[claim]:
            if rival not in beaten and is_beaten(claim, rival, uses, weights):
                beaten[claim] = True
                break
    return [tuple([own for own in fault if own not in beaten]) for fault in faults]


def reduced(faults, weights):
    """Claims that can go ahead of all search, and what faults are left then, with the claims left in them."""
    chosen = {}
    rest = faults
    before = None
    while rest != before:
        before = rest
        rest = without_beaten(without_wider(rest), weights)
        for fault in rest:
            if len(fault) == 1:
                chosen[fault[0]] = True
        rest = [fault for fault in rest if not [claim for claim in fault if claim in chosen]]
    return (list(chosen), rest)


def split(faults):
    """The faults in groups that have no claims in common."""
    groups = {}
    group_of = {}
    for at, fault in enumerate(faults):
        rows = [fault]
        for old in sorted({group_of[claim] for claim in fault if claim in group_of}):
            rows.extend(groups.pop(old))
        groups[at] = rows
        for row in rows:
            for claim in row:
                group_of[claim] = at
    return list(groups.values())


def need_of(faults, weights):
    """A weight that claims of all these faults have at least: each fault uses up some of its claims' weights."""
    left = {claim: weights[claim] for fault in faults for claim in fault}
    need = 0
    for fault in sorted(faults, key=len):
        part = min([left[claim] for claim in fault])
        if part > 0:
            need += part
            for claim in fault:
                left[claim] -= part
    return need


def most_used(faults):
    """The claim of a shortest one of some faults that is in the most of them."""
    shortest = min(faults, key=len)
    many = {claim: 0 for claim in shortest}
    for fault in faults:
        for claim in fault:
            if claim in many:
                many[claim] += 1
    return max(shortest, key=lambda claim: many[claim])


def least_of_group(faults, weights, most):
    """What least_hit gives for a group, by whether its claim that is used most is one of those that hit."""
    claim = most_used(faults)
    best = None
    let = most
    found = least_hit([fault for fault in faults if claim not in fault], weights, let - weights[claim])
    if found is not None:
        best = (found[0] + weights[claim], found[1] + [claim])
        let = best[0] - 1
    other = least_hit([tuple([own for own in fault if own != claim]) for fault in faults], weights, let)
    return best if other is None else other


def least_hit(faults, weights, most):
    """The least weight of claims that hit all faults, and the list of such claims; None if it is above most."""
    chosen, rest = reduced(faults, weights)
    groups = split(rest)
    needs = [need_of(group, weights) for group in groups]
    spent = sum([weights[claim] for claim in chosen]) + sum(needs)
    for group, need in zip(groups, needs):
        if spent > most:
            return None
        found = least_of_group(group, weights, most - spent + need)
        if found is None:
            return None
        spent += found[0] - need
        chosen.extend(found[1])
    return (spent, chosen) if spent <= most else None
