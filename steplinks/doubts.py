"""What may be, and what is sure, if as much is wrong in an image as leaves several readings."""

from steplinks.checks import between, check_number
from steplinks.errors import NoRecord, TooMany
from steplinks.layings import check_image, drawn, unlike_entries
from steplinks.mending import FEW_PLACES, MOST_GAINSAID
from steplinks.sheets import check_place, places, shifted
from steplinks.trying import all_within


def check_few(scheme):
    """Raise TooMany if there are more places than all layings are tried for."""
    if places(scheme) > FEW_PLACES:
        raise TooMany(FEW_PLACES)


def near_layings(scheme, image, most):
    """The ascending list of all plain layings that gainsay at most so many entries."""
    check_image(scheme, image)
    check_number(most, MOST_GAINSAID)
    check_few(scheme)
    return all_within(scheme, image, most)


def can_stand(scheme, image, most, record, place):
    """The ascending tuple of the records that stand so many places on from a record in one of these layings."""
    check_image(scheme, image)
    check_number(most, MOST_GAINSAID)
    if not between(record, 0, places(scheme) - 1):
        raise NoRecord()
    check_place(scheme, place)
    check_few(scheme)
    onward = shifted(scheme, place)
    near = all_within(scheme, image, most)
    return tuple(sorted({laying[onward[laying.index(record)]] for laying in near}))


def surely_false(scheme, image, most):
    """The ascending tuple of the entries that all of these layings gainsay; () if there is no such laying."""
    check_image(scheme, image)
    check_number(most, MOST_GAINSAID)
    check_few(scheme)
    near = all_within(scheme, image, most)
    if not near:
        return ()
    left = unlike_entries(drawn(scheme, near[0]), image)
    for laying in near[1:]:
        right = drawn(scheme, laying)
        left = [(record, kind) for record, kind in left if image[record][kind] != right[record][kind]]
    return tuple(left)
