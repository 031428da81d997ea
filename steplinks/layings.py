"""Layings, and the images that records give of them."""

from steplinks.checks import all_between, between
from steplinks.errors import NoImage, NoLaying
from steplinks.sheets import places, shifted


def is_laying(scheme, thing):
    """Whether a thing is a tuple that has each record once."""
    many = places(scheme)
    return all_between(thing, 0, many - 1) and len(thing) == many and len(set(thing)) == many


def is_entry(thing, many):
    """Whether a thing can stand in an image of so many records."""
    return thing is None or between(thing, 0, many - 1)


def is_row(thing, kinds, many):
    """Whether a thing is a tuple of so many entries."""
    if not isinstance(thing, tuple) or len(thing) != kinds:
        return False
    return all([is_entry(entry, many) for entry in thing])


def is_image(scheme, thing):
    """Whether a thing has the form of an image, right or not."""
    many = places(scheme)
    if not isinstance(thing, tuple) or len(thing) != many:
        return False
    kinds = len(scheme.steps) + scheme.numbers
    return all([is_row(row, kinds, many) for row in thing])


def check_laying(scheme, laying):
    """Raise NoLaying unless a laying is one of the scheme's."""
    if not is_laying(scheme, laying):
        raise NoLaying()


def check_image(scheme, image):
    """Raise NoImage unless an image has the form of the scheme's images."""
    if not is_image(scheme, image):
        raise NoImage()


def drawn(scheme, laying):
    """The image of what surely is a laying."""
    onward = [shifted(scheme, step) for step in scheme.steps]
    rows = [()] * places(scheme)
    for place, record in enumerate(laying):
        links = [laying[on[place]] for on in onward]
        rows[record] = tuple(links + [place] * scheme.numbers)
    return tuple(rows)


def image_of(scheme, laying):
    """The image of a laying."""
    check_laying(scheme, laying)
    return drawn(scheme, laying)


def plain(scheme, laying):
    """The least of the layings that have the image of a laying."""
    check_laying(scheme, laying)
    if scheme.numbers > 0:
        return laying
    # Links that lead everywhere leave open only which place the laying begins at.
    return tuple([laying[place] for place in shifted(scheme, laying.index(0))])


def is_plain(scheme, thing):
    """Whether a thing is a plain laying."""
    return is_laying(scheme, thing) and plain(scheme, thing) == thing


def nones(image):
    """How many entries of an image can't be read."""
    return sum([row.count(None) for row in image])


def by_numbers(scheme, image):
    """What stands at each place by the first number of each record, None where nothing does."""
    kind = len(scheme.steps)
    found = [None] * places(scheme)
    for record, row in enumerate(image):
        if row[kind] is not None:
            found[row[kind]] = record
    return tuple(found)


def by_links(scheme, image):
    """What stands at each place by the links that lead on from record 0 at place 0, None where none leads."""
    onward = [shifted(scheme, step) for step in scheme.steps]
    found = [None] * places(scheme)
    found[0] = 0
    edge = [0]
    while edge:
        place = edge.pop()
        row = image[found[place]]
        for on, named in zip(onward, row):
            if found[on[place]] is None and named is not None:
                found[on[place]] = named
                edge.append(on[place])
    return tuple(found)


def laying_of(scheme, image):
    """The plain laying of a right image, None for others."""
    check_image(scheme, image)
    found = by_numbers(scheme, image) if scheme.numbers > 0 else by_links(scheme, image)
    # If any laying has this image, it is this one: whether it has it, its own image tells.
    if is_laying(scheme, found) and drawn(scheme, found) == image:
        return found
    return None


def unlike_entries(right, image):
    """The ascending list of the entries of an image that are not None and unlike those of a right one."""
    return [(record, kind) for record, row in enumerate(image) for kind, entry in enumerate(row)
            if entry is not None and entry != right[record][kind]]


def gainsaid(scheme, laying, image):
    """The ascending list of the entries of an image that a laying gainsays."""
    check_laying(scheme, laying)
    check_image(scheme, image)
    return unlike_entries(drawn(scheme, laying), image)


def unlike(scheme, one, other):
    """The ascending list of the entries in which the images of two layings differ."""
    check_laying(scheme, one)
    check_laying(scheme, other)
    return unlike_entries(drawn(scheme, one), drawn(scheme, other))
