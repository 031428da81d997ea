"""Steps for rings, chosen by how much links by them vouch for."""

from math import gcd

from steplinks.checks import check_between
from steplinks.distances import least_distance
from steplinks.sheets import Scheme

LEAST_PLACES = 3
MOST_PLACES = 60
MOST_KINDS = 3
MOST_CHEAP_KINDS = 4
MOST_DISTANCE = 40
MOST_REACH = 6


def steps_within(many, reach):
    """The steps of lengths up to a reach, in the order 1, n - 1, 2, n - 2, .."""
    found = []
    for length in range(1, min(reach, many // 2) + 1):
        found.append(length)
        if many - length != length:
            found.append(many - length)
    return found


def rows_of(steps, kinds):
    """The tuples of so many steps, none ahead of the one before it in their order, in the order of tuples."""
    found = [((), 0)]
    for _ in range(kinds):
        found = [(row + (steps[at],), at) for row, last in found for at in range(last, len(steps))]
    return [row for row, last in found]


def sum_of_lengths(many, row):
    """The sum of the lengths of some steps."""
    return sum([min(step, many - step) for step in row])


def leads_everywhere(many, row):
    """Whether all places can be come to by some steps."""
    common = many
    for step in row:
        common = gcd(common, step)
    return common == 1


def schemes_of(many, kinds, reach):
    """The schemes without numbers by so many steps, those of less sum of lengths first, then in the order of steps."""
    rows = [row for row in rows_of(steps_within(many, reach), kinds) if leads_everywhere(many, row)]
    return [Scheme((many,), row, 0) for row in sorted(rows, key=lambda row: sum_of_lengths(many, row))]


def best_steps(places, kinds, reach):
    """The list of the tuples of so many steps of the greatest least distance."""
    check_between(places, LEAST_PLACES, MOST_PLACES)
    check_between(kinds, 1, MOST_KINDS)
    check_between(reach, 1, MOST_REACH)
    found = [(least_distance(scheme), scheme.steps) for scheme in schemes_of(places, kinds, reach)]
    greatest = max([distance for distance, steps in found])
    return [steps for distance, steps in found if distance == greatest]


def cheapest(places, distance, reach):
    """The triple (kinds, sum, steps) of the fewest kinds, and the least steps, that have a least distance; or None."""
    check_between(places, LEAST_PLACES, MOST_PLACES)
    check_between(distance, 1, MOST_DISTANCE)
    check_between(reach, 1, MOST_REACH)
    for kinds in range(1, MOST_CHEAP_KINDS + 1):
        for scheme in schemes_of(places, kinds, reach):
            if least_distance(scheme) >= distance:
                return (kinds, sum_of_lengths(places, scheme.steps), scheme.steps)
    return None
