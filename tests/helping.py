"""What several tests use: values of wrong kinds, and reckoning by the document's words alone."""

from itertools import permutations, product

from steplinks.errors import BadScheme, LinkError, NoPlace
from steplinks.sheets import Scheme

RING = Scheme((5,), (1,), 0)


def deep(make, leaf=0, levels=30):
    """A leaf that `make` wraps so many times."""
    for _ in range(levels):
        leaf = make(leaf)
    return leaf


def oddities():
    """Values that are no integer and no tuple of integers, apart from (); made anew each time."""
    return [
        None, True, False, "", "0", "abc\n\t~", [], [0], [0, 1], {}, {0: 1}, {(0, "a"): [1]}, ("0",), (None,),
        (True,), (False,), ((),), ((0,),), ([],), ({},), (RING,),
        deep(lambda inner: (inner,)), deep(lambda inner: [inner]), deep(lambda inner: {"a": inner}),
        deep(lambda inner: (inner, inner), levels=8), [0] * 99999, (None,) * 99999,
        RING, NoPlace(), LinkError(), BadScheme("steps"),
    ]


def far_integers():
    """Integers that lie far out of all bounds."""
    return [-1, -2, 401, 10 ** 18, 10 ** 999, -(10 ** 999)]


def rests_by_hand(moduli):
    """The list of the tuples of rests, in ascending order."""
    return list(product(*[range(modulus) for modulus in moduli]))


def plus_by_hand(moduli, one, other):
    """The sum of two places, by the list of all tuples of rests."""
    table = rests_by_hand(moduli)
    rests = tuple((a + b) % m for a, b, m in zip(table[one], table[other], moduli))
    return table.index(rests)


def image_by_hand(moduli, steps, numbers, laying):
    """The image of a laying, record by record."""
    rows = []
    for record in range(len(laying)):
        place = laying.index(record)
        links = [laying[plus_by_hand(moduli, place, step)] for step in steps]
        rows.append(tuple(links + [place] * numbers))
    return tuple(rows)


def layings_by_image(moduli, steps, numbers):
    """A dict from each right image to the ascending list of its layings."""
    found = {}
    for laying in permutations(range(len(rests_by_hand(moduli)))):
        found.setdefault(image_by_hand(moduli, steps, numbers, laying), []).append(laying)
    return found


def table_by_hand(moduli):
    """A dict that leads from pairs of places to their sums."""
    table = rests_by_hand(moduli)
    at = {rests: place for place, rests in enumerate(table)}
    return {(one, other): at[tuple((a + b) % m for a, b, m in zip(table[one], table[other], moduli))]
            for one in range(len(table)) for other in range(len(table))}


def images_by_hand(moduli, steps, numbers, layings):
    """The images of many layings, by one table of all sums."""
    sums = table_by_hand(moduli)
    found = []
    for laying in layings:
        rows = [None] * len(laying)
        for place, record in enumerate(laying):
            rows[record] = tuple([laying[sums[place, step]] for step in steps] + [place] * numbers)
        found.append(tuple(rows))
    return found


def plain_by_hand(moduli, steps, numbers):
    """The list of the pairs (plain laying, its image), ascending: of all layings, the first with each image."""
    layings = list(permutations(range(len(rests_by_hand(moduli)))))
    found = {}
    for laying, image in zip(layings, images_by_hand(moduli, steps, numbers, layings)):
        found.setdefault(image, laying)
    return sorted((laying, image) for image, laying in found.items())


def entries_of(image):
    """All pairs (record, kind) of an image, ascending."""
    return [(record, kind) for record, row in enumerate(image) for kind in range(len(row))]


def apart_by_hand(one, other):
    """The entries, None in neither image, in which two images differ."""
    return [(record, kind) for record, kind in entries_of(one)
            if None not in (one[record][kind], other[record][kind]) and one[record][kind] != other[record][kind]]


def written_in(image, entries):
    """An image in which some entries, told by a dict, are others."""
    return tuple(tuple(entries.get((record, kind), entry) for kind, entry in enumerate(row))
                 for record, row in enumerate(image))


def random_scheme(rng, moduli, kinds, numbers):
    """A scheme with so many kinds of links, often equal and opposite ones; with numbers if the steps need them."""
    while True:
        many = len(rests_by_hand(moduli))
        few = [rng.randrange(1, many) for _ in range(rng.randint(1, 3))]
        few += [rests_by_hand(moduli).index(tuple(-a % m for a, m in zip(rests_by_hand(moduli)[step], moduli)))
                for step in few]
        steps = tuple(rng.choice(few) for _ in range(kinds))
        try:
            return Scheme(moduli, steps, numbers)
        except BadScheme:
            continue


def random_laying(rng, many):
    laying = list(range(many))
    rng.shuffle(laying)
    return tuple(laying)
