"""Point 15: choosing steps."""

import random
import unittest
from itertools import combinations_with_replacement, permutations
from math import gcd

from steplinks.choosing import best_steps, cheapest
from steplinks.distances import least_distance
from steplinks.errors import NoNumber
from steplinks.sheets import Scheme
from helping import apart_by_hand, far_integers, images_by_hand, oddities


def ordered_steps(many, reach):
    """The steps by their lengths, the lesser one of two of a length first."""
    steps = [step for step in range(1, many) if min(step, many - step) <= reach]
    return sorted(steps, key=lambda step: (min(step, many - step), step))


def distance_by_hand(many, steps):
    """The least distance on a ring, without numbers, by the fact of point 8."""
    likes = [sum(other in (step, many - step) for other in steps) if 2 * step != many else 0 for step in steps]
    found = [4 * len(steps) - max(likes)]
    for size in range(len(steps) + 1):
        for lot in combinations_with_replacement(steps, size):
            inside = gcd(many, *lot)
            out = sum(step % inside != 0 for step in steps)
            if inside < many and out > 0:
                found.append(many // inside * 2 * out)
    return min(found)


def all_tuples(many, kinds, reach):
    """All tuples that count, in their order, with the sums of their lengths and their least distances."""
    rows = [row for row in combinations_with_replacement(ordered_steps(many, reach), kinds) if gcd(many, *row) == 1]
    return [(sum(min(step, many - step) for step in row), row, distance_by_hand(many, row)) for row in rows]


def best_by_hand(many, kinds, reach):
    found = all_tuples(many, kinds, reach)
    greatest = max(distance for _, _, distance in found)
    rows = [(total, row) for total, row, distance in found if distance == greatest]
    return [row for _, row in sorted(rows, key=lambda pair: pair[0])]


def cheapest_by_hand(many, distance, reach):
    for kinds in range(1, 5):
        found = [(total, row) for total, row, own in all_tuples(many, kinds, reach) if own >= distance]
        if found:
            total, row = min(found, key=lambda pair: pair[0])
            return (kinds, total, row)
    return None


class Choosing(unittest.TestCase):
    def test_the_distances_of_this_test(self):
        # By all layings of small rings, and by the landed function.
        for many in (3, 4, 5, 6):
            layings = [(0,) + rest for rest in permutations(range(1, many))]
            for kinds in (1, 2):
                for steps in combinations_with_replacement(range(1, many), kinds):
                    if gcd(many, *steps) == 1:
                        images = images_by_hand((many,), steps, 0, layings)
                        least = min(len(apart_by_hand(images[0], image)) for image in images[1:])
                        self.assertEqual(distance_by_hand(many, steps), least, (many, steps))
        rng = random.Random(15)
        for _ in range(300):
            many = rng.randint(3, 60)
            steps = tuple(rng.randrange(1, many) for _ in range(rng.randint(1, 4)))
            if gcd(many, *steps) == 1:
                self.assertEqual(distance_by_hand(many, steps), least_distance(Scheme((many,), steps, 0)))

    def test_best_steps(self):
        for many in range(3, 13):
            for kinds in (1, 2, 3):
                for reach in range(1, 7):
                    found = best_steps(many, kinds, reach)
                    self.assertEqual(found, best_by_hand(many, kinds, reach), (many, kinds, reach))
        rng = random.Random(151)
        for _ in range(10):
            parts = (rng.randint(13, 60), rng.randint(1, 3), rng.randint(1, 6))
            self.assertEqual(best_steps(*parts), best_by_hand(*parts))

    def test_cheapest(self):
        for many in range(3, 13):
            for reach in (1, 2, 3, 6):
                for distance in list(range(1, 17)) + [40]:
                    self.assertEqual(cheapest(many, distance, reach), cheapest_by_hand(many, distance, reach),
                                     (many, distance, reach))

    def test_wide_rings(self):
        for many, distance, reach in [(60, 15, 6), (59, 14, 6), (60, 40, 6), (48, 11, 4), (30, 12, 3)]:
            self.assertEqual(cheapest(many, distance, reach), cheapest_by_hand(many, distance, reach))
        for many in (48, 59, 60):
            self.assertEqual(best_steps(many, 3, 6), best_by_hand(many, 3, 6))

    def test_examples(self):
        self.assertEqual(best_steps(9, 1, 1), [(1,), (8,)])
        self.assertEqual(best_steps(9, 1, 6), [(1,), (8,), (2,), (7,), (4,), (5,)])
        self.assertEqual(best_steps(3, 2, 6), [(1, 1), (1, 2), (2, 2)])
        self.assertEqual(best_steps(4, 1, 2), [(1,), (3,)])
        self.assertEqual(cheapest(9, 3, 1), (1, 1, (1,)))
        self.assertEqual(cheapest(9, 7, 2), (2, 3, (1, 2)))
        self.assertEqual(cheapest(9, 11, 3), (3, 6, (1, 2, 3)))
        self.assertIsNone(cheapest(9, 16, 6))

    def test_what_is_returned(self):
        found = best_steps(9, 2, 2)
        self.assertIs(type(found), list)
        self.assertEqual({type(row) for row in found}, {tuple})
        found.append("more")
        self.assertNotIn("more", best_steps(9, 2, 2))
        self.assertIs(type(cheapest(9, 3, 1)), tuple)

    def test_bounds(self):
        for places, kinds, reach in [(3, 1, 1), (60, 3, 1), (60, 1, 6), (3, 3, 6)]:
            self.assertIsInstance(best_steps(places, kinds, reach), list)
        for places, distance, reach in [(3, 1, 1), (60, 40, 1), (3, 40, 6)]:
            self.assertIn(cheapest(places, distance, reach), (None, (1, 1, (1,))))

    def refused(self, call, *parts):
        before = repr(parts)
        with self.assertRaises(NoNumber):
            call(*parts)
        self.assertEqual(repr(parts), before)

    def test_what_is_no_number(self):
        for wrong in oddities() + far_integers() + [(), 0, -1, 61, "3", (3,), [3]]:
            for others in [(1, 1), (wrong, wrong)]:
                self.refused(best_steps, wrong, *others)
                self.refused(cheapest, wrong, *others)
            for reach in (1, wrong):
                self.refused(best_steps, 9, wrong, reach)
                self.refused(cheapest, 9, wrong, reach)
            self.refused(best_steps, 9, 1, wrong)
            self.refused(cheapest, 9, 1, wrong)
        for parts in [(2, 1, 1), (61, 1, 1), (9, 4, 1), (9, 0, 1), (9, 1, 0), (9, 1, 7)]:
            self.refused(best_steps, *parts)
        for parts in [(2, 1, 1), (61, 1, 1), (9, 0, 1), (9, 41, 1), (9, 1, 0), (9, 1, 7)]:
            self.refused(cheapest, *parts)


if __name__ == "__main__":
    unittest.main()
