"""Which claims can be gainsaid at all where none contradicts another, if only so much weight may be."""

from heapq import heappop, heappush

from steplinks.web import GONE, KEPT


def head_of(heads, record):
    """The record that stands for the group of a record."""
    head = record
    while heads[head] != head:
        head = heads[head]
    return head


def unite(heads, one, other):
    """Make one group of those of two records; tell whether they were two."""
    first = head_of(heads, one)
    second = head_of(heads, other)
    heads[max(first, second)] = min(first, second)
    return first != second


def between_groups(web, marks, heads):
    """For each group that has claims with others, a dict from these to the weight of the claims with them."""
    found = {}
    for claim, (one, other, _) in enumerate(web.claims):
        first = head_of(heads, one)
        second = head_of(heads, other)
        if marks[claim] != GONE and first != second:
            for start, end in ((first, second), (second, first)):
                row = found.setdefault(start, {})
                row[end] = row.get(end, 0) + web.weights[claim]
    return found


def firm_pairs(beside, spare):
    """Pairs of groups that claims of a weight of at most `spare` can't part; some, if there are any such claims.

    From the groups that are done one goes on to the one to which the most weight leads from these. What the weight
    to a group has grown to when a group beside it is done, it takes at least to part these two (a lemma of Nagamochi
    and Ibaraki's).
    """
    pull = {group: 0 for group in beside}
    queue = [(0, group) for group in sorted(beside)]
    done = {}
    found = []
    while queue:
        _, group = heappop(queue)
        if group in done:
            continue
        done[group] = True
        for other, weight in beside[group].items():
            if other not in done:
                pull[other] += weight
                heappush(queue, (-pull[other], other))
                if pull[other] > spare:
                    found.append((group, other))
    return found


def weak_claims(web, marks, spare):
    """Claims one of which is gainsaid wherever any is, if what is gainsaid weighs at most `spare`.

    A laying that gainsays a claim parts what hangs together. So these hang together all that does, but for what is
    too firm to be parted.
    """
    heads = list(range(web.ground + 1))
    for claim, (one, other, _) in enumerate(web.claims):
        if marks[claim] == KEPT:
            unite(heads, one, other)
    firm = firm_pairs(between_groups(web, marks, heads), spare)
    while firm:
        for one, other in firm:
            unite(heads, one, other)
        firm = firm_pairs(between_groups(web, marks, heads), spare)
    return [claim for claim, (one, other, _) in enumerate(web.claims)
            if marks[claim] != GONE and unite(heads, one, other)]
