"""The layings that are nearest to an image."""

from steplinks.checks import check_number
from steplinks.distances import least_distance
from steplinks.errors import NotSure, TooMany
from steplinks.layings import check_image, nones
from steplinks.lots import look_through
from steplinks.sheets import places
from steplinks.trying import try_all

MOST_GAINSAID = 400
MOST_LAYINGS = 60
FEW_PLACES = 7


def nearest_within(scheme, image, most):
    """What nearest returns for what surely are an image and a number."""
    # Few places have few layings, whatever is wrong; of more places, only what is wrong is looked through.
    if places(scheme) <= FEW_PLACES:
        found = try_all(scheme, image, most, MOST_LAYINGS + 1)
    else:
        found = look_through(scheme, image, most, MOST_LAYINGS + 1)
    if found is None:
        return None
    number, layings = found
    if len(layings) > MOST_LAYINGS:
        raise TooMany(MOST_LAYINGS)
    return (number, sorted(layings))


def nearest(scheme, image, most):
    """The least number of entries that a laying gainsays, and all plain layings that gainsay so many; or None."""
    check_image(scheme, image)
    check_number(most, MOST_GAINSAID)
    return nearest_within(scheme, image, most)


def mended(scheme, image, false):
    """The plain laying that gainsays at most so many entries, None if there is none."""
    check_image(scheme, image)
    check_number(false, MOST_GAINSAID)
    distance = least_distance(scheme)
    if 2 * false + nones(image) >= distance:
        raise NotSure(distance)
    found = nearest_within(scheme, image, false)
    if found is None:
        return None
    return found[1][0]
