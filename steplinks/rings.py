"""Rings of hundreds of records, mended by what is wrong in each window of some places."""

from math import gcd

from steplinks.checks import check_between
from steplinks.errors import NotRing, NotWide
from steplinks.healing import nearest_all_along
from steplinks.layings import check_image, drawn, nones
from steplinks.sheets import places

MOST_OFTEN = 6


def check_ring(scheme):
    """Raise NotRing unless a scheme is a ring."""
    if len(scheme.moduli) != 1:
        raise NotRing()


def lengths(scheme):
    """The list of the lengths of a ring's steps."""
    return [min(step, places(scheme) - step) for step in scheme.steps]


def window_of(scheme, often):
    """The window for a number that surely is one."""
    return 2 * max(lengths(scheme)) * (4 * often + 2)


def window(scheme, often):
    """The number of places running among which so many entries may be wrong."""
    check_ring(scheme)
    check_between(often, 1, MOST_OFTEN)
    return window_of(scheme, often)


def is_wide(scheme, often):
    """Whether a ring is wide enough, and its links say enough, for so many wrong entries in each window."""
    common = 0
    for length in lengths(scheme):
        common = gcd(common, length)
    # Then all places can be come to, too.
    if places(scheme) < window_of(scheme, often) or common != 1:
        return False
    if 2 * often >= 2 * len(scheme.steps) + scheme.numbers:
        return False
    return scheme.numbers > 0 or 2 * often < sum(lengths(scheme))


def wrong_at(scheme, image, laying):
    """The list of how many entries are gainsaid or None of the record at each place, by a laying."""
    right = drawn(scheme, laying)
    return [len([entry for entry, own in zip(image[record], right[record]) if entry != own]) for record in laying]


def most_wrong(counts, wide):
    """The greatest sum of so many of these counts running, coming round."""
    here = sum(counts[:wide])
    most = here
    for place in range(len(counts)):
        here += counts[(place + wide) % len(counts)] - counts[place]
        most = max(most, here)
    return most


def mended_ring(scheme, image, often):
    """The plain laying with at most so many wrong entries among the places of each window; None if there is none."""
    check_ring(scheme)
    check_image(scheme, image)
    check_between(often, 1, MOST_OFTEN)
    if not is_wide(scheme, often):
        raise NotWide()
    wide = window_of(scheme, often)
    # There are as many windows as places, and each entry is counted in as many of them as one has places.
    most = often * places(scheme) // wide - nones(image)
    # If there is such a laying, no other one gainsays as few entries.
    laying = nearest_all_along(scheme, image, most) if most >= 0 else None
    if laying is None or most_wrong(wrong_at(scheme, image, laying), wide) > often:
        return None
    return laying
