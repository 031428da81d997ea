"""What mends rings with damage all along: the lightest claims that hit all faults, and the nearest laying by them."""

import random
import unittest
from itertools import combinations

from steplinks.errors import BadScheme
from steplinks.healing import nearest_all_along
from steplinks.hitting import least_hit
from steplinks.layings import gainsaid, image_of, plain
from steplinks.sheets import Scheme
from helping import apart_by_hand, entries_of, plain_by_hand, written_in


def least_by_hand(faults, weights):
    """The least weight of claims that hit all faults, by all lots of claims."""
    claims = range(len(weights))
    return min(sum(weights[claim] for claim in lot) for many in range(len(weights) + 1)
               for lot in combinations(claims, many) if all(set(lot) & set(fault) for fault in faults))


class Hitting(unittest.TestCase):
    def test_all_lots(self):
        rng = random.Random(1212)
        for _ in range(150):
            weights = [rng.randint(1, 3) for _ in range(rng.randint(1, 9))]
            faults = [tuple(sorted(rng.sample(range(len(weights)), rng.randint(1, min(4, len(weights))))))
                      for _ in range(rng.randint(0, 9))]
            least = least_by_hand(faults, weights)
            for most in (least, least + 1, 100):
                weight, claims = least_hit(faults, weights, most)
                self.assertEqual(weight, least)
                self.assertEqual(sum(weights[claim] for claim in claims), least)
                self.assertEqual(len(set(claims)), len(claims))
                for fault in faults:
                    self.assertTrue(set(fault) & set(claims))
            self.assertIsNone(least_hit(faults, weights, least - 1))

    def test_many_groups(self):
        # Triangles far apart, each of which two claims hit.
        faults = [pair for first in range(0, 300, 3) for pair in combinations(range(first, first + 3), 2)]
        self.assertEqual(least_hit(faults, [1] * 300, 1000)[0], 200)


class Healing(unittest.TestCase):
    def test_all_layings(self):
        rng = random.Random(1213)
        tried = 0
        while tried < 40:
            many = rng.choice([3, 4, 5, 6, 6])
            numbers = rng.randint(0, 2)
            try:
                scheme = Scheme((many,), tuple(rng.randrange(1, many) for _ in range(rng.randint(1, 3))), numbers)
            except BadScheme:
                continue
            tried += 1
            pairs = plain_by_hand((many,), scheme.steps, numbers)
            for _ in range(8):
                right = rng.choice(pairs)[1]
                wrong = rng.sample(entries_of(right), rng.randint(0, len(entries_of(right)) * 2 // 3))
                image = written_in(right, {entry: rng.choice([None, *range(many)]) for entry in wrong})
                least = min(len(apart_by_hand(other, image)) for _, other in pairs)
                found = nearest_all_along(scheme, image, 400)
                self.assertEqual(plain(scheme, found), found)
                self.assertEqual(len(gainsaid(scheme, found, image)), least)
                self.assertEqual(nearest_all_along(scheme, image, least), found)
                if least > 0:
                    self.assertIsNone(nearest_all_along(scheme, image, least - 1))

    def test_parts_that_do_not_fit(self):
        # Two rounds of four places each, and stretches of 3, 3 and 2 records.
        scheme = Scheme((8,), (2,), 1)
        image = ((1, None), (2, None), (None, None), (4, None), (5, None), (None, None), (7, None), (None, None))
        found = nearest_all_along(scheme, image, 400)
        self.assertEqual(len(gainsaid(scheme, found, image)), 1)
        self.assertIsNone(nearest_all_along(scheme, image, 0))

    def test_faults_that_go_far_round(self):
        # Two rounds of twenty records each, that contradict themselves nowhere but all the way round.
        ring = Scheme((40,), (1,), 0)
        image = written_in(image_of(ring, tuple(range(40))), {(19, 0): 0, (39, 0): 20})
        self.assertEqual(len(gainsaid(ring, nearest_all_along(ring, image, 400), image)), 2)
        self.assertIsNone(nearest_all_along(ring, image, 1))
        # By each of two links the same.
        ring = Scheme((40,), (1, 39), 0)
        image = written_in(image_of(ring, tuple(range(40))), {(19, 0): 0, (39, 0): 20, (0, 1): 19, (20, 1): 39})
        self.assertEqual(len(gainsaid(ring, nearest_all_along(ring, image, 400), image)), 4)
        self.assertIsNone(nearest_all_along(ring, image, 3))

    def test_equal_calls(self):
        scheme = Scheme((30,), (1, 2), 1)
        image = written_in(image_of(scheme, tuple(range(30))), {(3, 0): 8, (7, 1): None, (20, 2): 3})
        self.assertEqual(nearest_all_along(scheme, image, 9), tuple(range(30)))
        self.assertEqual(nearest_all_along(scheme, image, 9), nearest_all_along(scheme, image, 9))


if __name__ == "__main__":
    unittest.main()
