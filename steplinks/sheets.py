"""Schemes: the sheet on which records stand, and the kinds of entries that they bear."""

from steplinks.checks import all_between, between
from steplinks.errors import BadScheme, NoKinds, NoPlace

MOST_MODULI = 3
LEAST_PLACES = 3
MOST_PLACES = 400
MOST_STEPS = 6
MOST_NUMBERS = 3


class Scheme:
    """A sheet by its moduli, the steps of its kinds of links, and how many kinds of numbers it has."""

    def __init__(self, moduli, steps, numbers):
        if not are_moduli(moduli):
            raise BadScheme("moduli")
        if not are_steps(steps, size(moduli)):
            raise BadScheme("steps")
        if not between(numbers, 0, MOST_NUMBERS):
            raise BadScheme("numbers")
        # Without numbers, links alone have to tell where each record stands.
        if numbers == 0 and len(come_to(moduli, steps)) < size(moduli):
            raise BadScheme("steps")
        self.moduli = moduli
        self.steps = steps
        self.numbers = numbers

    def __eq__(self, other):
        return (isinstance(other, Scheme) and self.moduli == other.moduli and self.steps == other.steps
                and self.numbers == other.numbers)


def are_moduli(thing):
    """Whether a thing is a tuple of moduli that make a sheet neither too small nor too great."""
    if not all_between(thing, 2, MOST_PLACES):
        return False
    # The length is looked at first, so that no endless product is made.
    return 1 <= len(thing) <= MOST_MODULI and LEAST_PLACES <= size(thing) <= MOST_PLACES


def are_steps(thing, many):
    """Whether a thing is a tuple of steps on a sheet of so many places."""
    return all_between(thing, 1, many - 1) and 1 <= len(thing) <= MOST_STEPS


def size(moduli):
    """The number of places of a sheet."""
    many = 1
    for modulus in moduli:
        many = many * modulus
    return many


def rests_of(moduli, place):
    """The list of the rests of a place."""
    found = []
    left = place
    for modulus in reversed(moduli):
        found.append(left % modulus)
        left = left // modulus
    return list(reversed(found))


def joined(moduli, found):
    """The place that has these rests."""
    place = 0
    for modulus, rest in zip(moduli, found):
        place = place * modulus + rest
    return place


def added(moduli, one, other):
    """The sum of two places."""
    firsts = rests_of(moduli, one)
    seconds = rests_of(moduli, other)
    sums = [(first + second) % modulus for modulus, first, second in zip(moduli, firsts, seconds)]
    return joined(moduli, sums)


def opposite(moduli, place):
    """The place that makes 0 together with a place."""
    found = rests_of(moduli, place)
    return joined(moduli, [(modulus - rest) % modulus for modulus, rest in zip(moduli, found)])


def come_to(moduli, steps):
    """The ascending list of the places that can be come to from 0 by steps."""
    seen = {0: True}
    edge = [0]
    while edge:
        beside = [added(moduli, place, step) for place in edge for step in steps]
        edge = []
        for place in beside:
            if place not in seen:
                seen[place] = True
                edge.append(place)
    return sorted(seen)


def check_place(scheme, place):
    """Raise NoPlace unless a place is one of the scheme's."""
    if not between(place, 0, places(scheme) - 1):
        raise NoPlace()


def places(scheme):
    """The number of places."""
    return size(scheme.moduli)


def rests(scheme, place):
    """The tuple of the rests of a place."""
    check_place(scheme, place)
    return tuple(rests_of(scheme.moduli, place))


def plus(scheme, one, other):
    """The sum of two places, rest by rest."""
    check_place(scheme, one)
    check_place(scheme, other)
    return added(scheme.moduli, one, other)


def less(scheme, one, other):
    """One place less another, rest by rest."""
    check_place(scheme, one)
    check_place(scheme, other)
    return added(scheme.moduli, one, opposite(scheme.moduli, other))


def shifted(scheme, step):
    """The list of the places that stand a step on from each place."""
    found = [0]
    for modulus, rest in zip(scheme.moduli, rests_of(scheme.moduli, step)):
        found = [place * modulus + (rest + own) % modulus for place in found for own in range(modulus)]
    return found


def are_kinds(scheme, thing):
    """Whether a thing is an ascending tuple of kinds of links."""
    if not isinstance(thing, tuple):
        return False
    least = 0
    for kind in thing:
        if not between(kind, least, len(scheme.steps) - 1):
            return False
        least = kind + 1
    return True


def closed(scheme, kinds):
    """The ascending tuple of the places that can be come to from 0 by the steps of some kinds of links."""
    if not are_kinds(scheme, kinds):
        raise NoKinds()
    return tuple(come_to(scheme.moduli, [scheme.steps[kind] for kind in kinds]))
