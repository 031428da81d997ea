"""The nearest laying of an image whose links lead to the next place or to the one ahead.

Such an entry says that one record stands right behind another one. A claim is a pair of these, weighed by how many
entries make it. A laying keeps claims that make up stretches, or the whole round, and any stretches can be put one
behind another. So the claims that are kept are told first: at most one away from each record and one to it, and then
in each round that is closed too early one has to go.
"""


def claims_said(image, ahead):
    """A dict from claims to their weights; the first kinds tell who stands behind a record, the others who ahead."""
    found = {}
    for record, row in enumerate(image):
        for kind, named in enumerate(row):
            if named is not None and named != record:
                claim = (record, named) if kind < ahead else (named, record)
                found[claim] = found.get(claim, 0) + 1
    return found


def rival_groups(said):
    """The claims in lists of those that lead away from the same records, or to the same ones, hand to hand."""
    groups = {}
    group_of = {}
    for at, (one, other) in enumerate(said):
        ends = [(0, one), (1, other)]
        rows = [(one, other)]
        for old in sorted({group_of[end] for end in ends if end in group_of}):
            rows.extend(groups.pop(old))
        groups[at] = rows
        for first, second in rows:
            group_of[0, first] = at
            group_of[1, second] = at
    return list(groups.values())


def are_rivals(one, other):
    """Whether two claims lead away from the same record, or to the same one, so that they can't both hold."""
    return one[0] == other[0] or one[1] == other[1]


def choices(said, group):
    """The pairs (lost, kept) of how claims of a group can be kept, as many as go together; lost is their weight left.

    Those that lose least come first.
    """
    found = []
    begun = [(0, 0, ())]
    while begun:
        at, lost, kept = begun.pop()
        if at == len(group):
            # What nothing speaks against is kept.
            if all([[own for own in kept if are_rivals(own, rival)] for rival in group]):
                found.append((lost, kept))
        else:
            claim = group[at]
            begun.append((at + 1, lost + said[claim], kept))
            if not [own for own in kept if are_rivals(own, claim)]:
                begun.append((at + 1, lost, kept + (claim,)))
    return sorted(found)


def follow(behind, first):
    """The records from one on, each behind the one ahead, up to the last one or round to the first."""
    found = [first]
    while behind.get(found[-1], first) != first:
        found.append(behind[found[-1]])
    return found


def pieces_of(many, kept):
    """The stretches that kept claims make up, and the rounds, as lists of records; rounds begin with their least."""
    behind = {one: other for one, other in kept}
    ahead = {other: one for one, other in kept}
    stretches = [follow(behind, record) for record in range(many) if record not in ahead]
    met = {record: True for row in stretches for record in row}
    rounds = []
    for record in range(many):
        if record not in met:
            rounds.append(follow(behind, record))
            met.update({own: True for own in rounds[-1]})
    return (stretches, rounds)


def round_weights(said, row):
    """The weights of the claims of a round, each told from the record behind the first one on, and the least one."""
    weights = [said[one, other] for one, other in zip(row, row[1:] + row[:1])]
    return (weights, min(weights))


def opened(said, row):
    """The stretch with the least first record that a round makes up if one of its lightest claims goes."""
    weights, least = round_weights(said, row)
    firsts = [(row[(at + 1) % len(row)], at + 1) for at, weight in enumerate(weights) if weight == least]
    start = min(firsts)[1]
    return row[start:] + row[:start]


def opened_first(said, row, others):
    """How the round of record 0 is opened so that the laying is the least: what stands ahead of others, and behind."""
    weights, least = round_weights(said, row)
    cuts = [at + 1 for at, weight in enumerate(weights) if weight == least]
    early = [cut for cut in cuts if cut < len(row) and others[0][0] < row[cut]]
    cut = early[0] if early else cuts[-1]
    return (row[:cut], row[cut:])


def least_laying(said, stretches, rounds):
    """The least plain laying of stretches and of rounds that are opened."""
    if not stretches and len(rounds) == 1:
        return tuple(rounds[0])
    # What comes next is always the stretch with the least first record, but that what leads to record 0 comes last.
    others = sorted([row for row in stretches if 0 not in row] + [opened(said, row) for row in rounds if row[0] > 0])
    firsts = [row for row in stretches if 0 in row]
    if firsts:
        start = firsts[0].index(0)
        head, tail = firsts[0][start:], firsts[0][:start]
    else:
        head, tail = opened_first(said, rounds[0], others)
    return tuple(head + [record for row in others for record in row] + tail)


def lost_in_rounds(said, stretches, rounds):
    """The weight that goes to open all rounds that are closed too early."""
    if not stretches and len(rounds) == 1:
        return 0
    return sum([round_weights(said, row)[1] for row in rounds])


def nearest_round(image, ahead):
    """The least of the plain layings that gainsay the fewest entries of an image."""
    said = claims_said(image, ahead)
    rows = [choices(said, group) for group in rival_groups(said)]
    sure = [claim for row in rows if len(row) == 1 for claim in row[0][1]]
    open_rows = [row for row in rows if len(row) > 1]
    best = None
    begun = [(sum([row[0][0] for row in open_rows]), 0, sure)]
    while begun:
        lost, at, kept = begun.pop()
        if at < len(open_rows):
            # What is lost counts the least that can be lost in all groups that are still open.
            least = open_rows[at][0][0]
            begun.extend([(lost + more - least, at + 1, kept + list(own)) for more, own in reversed(open_rows[at])
                          if best is None or lost + more - least <= best[0]])
        else:
            stretches, rounds = pieces_of(len(image), kept)
            lost = lost + lost_in_rounds(said, stretches, rounds)
            if best is None or lost <= best[0]:
                found = (lost, least_laying(said, stretches, rounds))
                best = found if best is None else min(best, found)
    return best[1]
