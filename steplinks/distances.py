"""How far layings lie apart, and images halfway between two of them."""

from steplinks.checks import check_number
from steplinks.layings import drawn, is_image, is_plain, nones, plain, unlike_entries
from steplinks.sheets import opposite, places, shifted

MOST_WRONG = 40


def widened(onward, inside):
    """The places that can be come to from those of a closed lot by one step more, led on by a list of places."""
    found = list(inside)
    beside = [onward[place] for place in inside]
    # A closed lot is moved as a whole: when 0 comes back into it, so does all of it.
    while beside[0] not in inside:
        found.extend(beside)
        beside = [onward[place] for place in beside]
    return tuple(sorted(found))


def closed_lots(scheme):
    """What lots of kinds close, each once."""
    found = {(0,): True}
    for step in scheme.steps:
        onward = shifted(scheme, step)
        for inside in list(found):
            found[widened(onward, inside)] = True
    return list(found)


def like_kinds(scheme, step):
    """The number of kinds whose steps are a step or its opposite; 0 if these two are one."""
    back = opposite(scheme.moduli, step)
    if back == step:
        return 0
    return scheme.steps.count(step) + scheme.steps.count(back)


def exchange(scheme):
    """The least number of entries that an exchange of two records changes, and the places of two such."""
    likes = [like_kinds(scheme, step) for step in scheme.steps]
    most = max(likes)
    return (4 * len(likes) - most + 2 * scheme.numbers, (0, scheme.steps[likes.index(most)]))


def moved_on(scheme, inside):
    """The number of entries that change if what stands on the places of a closed lot moves on by one of these."""
    out = [step for step in scheme.steps if step not in inside]
    return (len(inside) * (2 * len(out) + scheme.numbers), inside)


def least_change(scheme):
    """The least distance, and the places whose records all move on by the second of these to make it.

    The fact of point 8 says that nothing changes fewer entries than such an exchange or move.
    """
    moves = [moved_on(scheme, inside) for inside in closed_lots(scheme) if len(inside) > 1]
    # All records together may move without any entry telling of it.
    return min([exchange(scheme)] + [pair for pair in moves if pair[0] > 0])


def least_distance(scheme):
    """The least distance of two layings that are not alike."""
    return least_change(scheme)[0]


def two_layings(scheme):
    """A pair of plain layings, not alike, that have the least distance."""
    one = tuple(range(places(scheme)))
    moved = least_change(scheme)[1]
    onward = shifted(scheme, moved[1])
    other = list(one)
    for place in moved:
        # In an exchange the second record goes to 0, wherever the step leads on from its place.
        target = onward[place] if onward[place] in moved else 0
        other[target] = place
    return (one, plain(scheme, tuple(other)))


def halfway(scheme, false, unreadable):
    """An image, and two plain layings of which each gainsays few enough of it; None if there is none."""
    check_number(false, MOST_WRONG)
    check_number(unreadable, MOST_WRONG)
    many = places(scheme) * (len(scheme.steps) + scheme.numbers)
    if 2 * false + unreadable < least_distance(scheme) or unreadable > many:
        return None
    one, other = two_layings(scheme)
    first = drawn(scheme, one)
    second = drawn(scheme, other)
    apart = unlike_entries(first, second)
    rows = [list(row) for row in first]
    # What can't be read hides first what the two differ in; each gainsays about half of what is left of that.
    for record, kind in apart[unreadable + max(0, len(apart) - unreadable) // 2:]:
        rows[record][kind] = second[record][kind]
    alike = [(record, kind) for record, row in enumerate(rows) for kind in range(len(row))
             if first[record][kind] == second[record][kind]]
    for record, kind in (apart + alike)[:unreadable]:
        rows[record][kind] = None
    return (tuple([tuple(row) for row in rows]), one, other)


def is_halfway(scheme, false, unreadable, thing):
    """Whether a thing is what halfway may return, but for None."""
    check_number(false, MOST_WRONG)
    check_number(unreadable, MOST_WRONG)
    if not isinstance(thing, tuple) or len(thing) != 3:
        return False
    image, one, other = thing
    if not is_image(scheme, image) or not is_plain(scheme, one) or not is_plain(scheme, other):
        return False
    # Two plain layings are alike only if they are equal.
    if one == other or nones(image) != unreadable:
        return False
    return all([len(unlike_entries(drawn(scheme, laying), image)) <= false for laying in (one, other)])
