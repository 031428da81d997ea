"""What several tests use: values of wrong kinds, and reckoning by the document's words alone."""

from itertools import permutations, product

from steplinks.errors import BadScheme, LinkError, NoPlace
from steplinks.sheets import Scheme

RING = Scheme((5,), (1,), 0)


def deep(make, leaf=0, levels=30):
    """A leaf that `make` wraps so many times."""
    for _ in range(levels):
        leaf = make(leaf)
    return leaf


def oddities():
    """Values that are no integer and no tuple of integers, apart from (); made anew each time."""
    return [
        None, True, False, "", "0", "abc\n\t~", [], [0], [0, 1], {}, {0: 1}, {(0, "a"): [1]}, ("0",), (None,),
        (True,), (False,), ((),), ((0,),), ([],), ({},), (RING,),
        deep(lambda inner: (inner,)), deep(lambda inner: [inner]), deep(lambda inner: {"a": inner}),
        deep(lambda inner: (inner, inner), levels=8), [0] * 99999, (None,) * 99999,
        RING, NoPlace(), LinkError(), BadScheme("steps"),
    ]


def far_integers():
    """Integers that lie far out of all bounds."""
    return [-1, -2, 401, 10 ** 18, 10 ** 999, -(10 ** 999)]


def rests_by_hand(moduli):
    """The list of the tuples of rests, in ascending order."""
    return list(product(*[range(modulus) for modulus in moduli]))


def plus_by_hand(moduli, one, other):
    """The sum of two places, by the list of all tuples of rests."""
    table = rests_by_hand(moduli)
    rests = tuple((a + b) % m for a, b, m in zip(table[one], table[other], moduli))
    return table.index(rests)


def image_by_hand(moduli, steps, numbers, laying):
    """The image of a laying, record by record."""
    rows = []
    for record in range(len(laying)):
        place = laying.index(record)
        links = [laying[plus_by_hand(moduli, place, step)] for step in steps]
        rows.append(tuple(links + [place] * numbers))
    return tuple(rows)


def layings_by_image(moduli, steps, numbers):
    """A dict from each right image to the ascending list of its layings."""
    found = {}
    for laying in permutations(range(len(rests_by_hand(moduli)))):
        found.setdefault(image_by_hand(moduli, steps, numbers, laying), []).append(laying)
    return found
