"""Point 11: near layings, what can stand where, and what is surely false."""

import random
import unittest

from steplinks.distances import least_distance
from steplinks.doubts import can_stand, near_layings, surely_false
from steplinks.errors import NoImage, NoNumber, NoPlace, NoRecord, TooMany
from steplinks.layings import image_of
from steplinks.sheets import Scheme, places
from helping import (apart_by_hand, deep, entries_of, far_integers, oddities, plain_by_hand, plus_by_hand, written_in)

SCHEMES = [((3,), (1,), 0), ((3,), (1, 2), 1), ((4,), (1,), 0), ((4,), (1, 2), 0), ((4,), (2,), 2), ((2, 2), (1, 2), 0),
           ((2, 2), (3,), 1), ((5,), (1, 2), 0), ((5,), (1, 1, 4), 0), ((5,), (2,), 1), ((6,), (1,), 0),
           ((6,), (1, 3), 0), ((6,), (3,), 1), ((2, 3), (1, 3), 0), ((7,), (1,), 0), ((7,), (1, 2), 0), ((7,), (3,), 1)]


class Doubts(unittest.TestCase):
    def images(self, rng, pairs, many):
        """Right images with changed and unreadable entries."""
        records = range(len(pairs[0][0]))
        yield pairs[-1][1]
        yield tuple((None,) * len(row) for row in pairs[0][1])
        for _ in range(many):
            image = rng.choice(pairs)[1]
            entries = rng.sample(entries_of(image), rng.randint(0, min(6, len(entries_of(image)))))
            yield written_in(image, {entry: rng.choice([None, *records]) for entry in entries})

    def compare(self, rng, triple, pairs, image, most):
        """Check all three against all plain layings and their images."""
        scheme = Scheme(*triple)
        apart = [(laying, set(apart_by_hand(right, image))) for laying, right in pairs]
        near = [(laying, entries) for laying, entries in apart if len(entries) <= most]
        self.assertEqual(near_layings(scheme, image, most), [laying for laying, _ in near])
        false = set.intersection(*[entries for _, entries in near]) if near else set()
        self.assertEqual(surely_false(scheme, image, most), tuple(sorted(false)))
        for record, place in [(rng.randrange(places(scheme)), rng.randrange(places(scheme))) for _ in range(3)]:
            stand = {laying[plus_by_hand(triple[0], laying.index(record), place)] for laying, _ in near}
            self.assertEqual(can_stand(scheme, image, most, record, place), tuple(sorted(stand)))

    def test_all_layings(self):
        rng = random.Random(11)
        for triple in SCHEMES:
            pairs = plain_by_hand(*triple)
            distance = least_distance(Scheme(*triple))
            many = 12 if len(pairs) < 1000 else 2
            for image in self.images(rng, pairs, many):
                mosts = [0, 1, distance // 2, distance - 1, distance, distance + 1, 400]
                for most in mosts if len(pairs) < 1000 else rng.sample(mosts, 2):
                    self.compare(rng, triple, pairs, image, most)

    def test_no_laying_is_near(self):
        scheme = Scheme((5,), (1, 2), 0)
        image = written_in(image_of(scheme, (0, 1, 2, 3, 4)), {(0, 0): 0, (3, 1): 1})
        self.assertEqual(near_layings(scheme, image, 1), [])
        self.assertEqual(surely_false(scheme, image, 1), ())
        self.assertEqual(can_stand(scheme, image, 1, 2, 3), ())
        self.assertEqual(near_layings(scheme, image, 2), [(0, 1, 2, 3, 4)])
        self.assertEqual(surely_false(scheme, image, 2), ((0, 0), (3, 1)))
        self.assertEqual(can_stand(scheme, image, 2, 2, 3), (0,))
        self.assertEqual(can_stand(scheme, image, 2, 2, 0), (2,))

    def test_steps_that_lead_not_everywhere(self):
        # By numbers alone each of two rounds has its place.
        scheme = Scheme((4,), (2,), 1)
        image = ((2, None), (3, None), (0, 0), (1, None))
        self.assertEqual(near_layings(scheme, image, 0), [(2, 1, 0, 3), (2, 3, 0, 1)])
        self.assertEqual(can_stand(scheme, image, 0, 2, 1), (1, 3))

    def test_a_new_list(self):
        scheme = Scheme((4,), (1, 2), 0)
        image = image_of(scheme, (0, 2, 1, 3))
        near_layings(scheme, image, 0).append("more")
        self.assertEqual(near_layings(scheme, image, 0), [(0, 2, 1, 3)])

    def test_more_than_seven_places(self):
        for scheme in [Scheme((8,), (1,), 0), Scheme((2, 4), (1, 4), 2), Scheme((400,), (1,), 0)]:
            image = image_of(scheme, tuple(range(places(scheme))))
            for call in [lambda: near_layings(scheme, image, 0), lambda: can_stand(scheme, image, 400, 7, 7),
                         lambda: surely_false(scheme, image, 3)]:
                with self.assertRaises(TooMany) as caught:
                    call()
                self.assertEqual(caught.exception.most, 7)

    def test_the_first_wrong_argument_is_told(self):
        for scheme in [Scheme((6,), (1, 2), 0), Scheme((8,), (1,), 1)]:
            image = image_of(scheme, tuple(range(places(scheme))))
            many = places(scheme)
            wrongs = oddities() + far_integers() + [(), (1,), 401, -1, many + 400]
            for wrong in wrongs:
                before = repr(wrong)
                for others in [(0, 0, 0), (wrong, wrong, wrong)]:
                    for thing in [wrong, image[1:], list(image), written_in(image, {(1, 0): many})]:
                        self.refused(NoImage, scheme, thing, *others)
                    self.refused(NoNumber, scheme, image, wrong, *others[1:])
                    for record in [wrong, many, deep(lambda inner: (inner,))]:
                        with self.assertRaises(NoRecord):
                            can_stand(scheme, image, 0, record, others[2])
                for place in [wrong, many]:
                    with self.assertRaises(NoPlace):
                        can_stand(scheme, image, 0, many - 1, place)
                self.assertEqual(repr(wrong), before)

    def refused(self, error, scheme, image, most, record, place):
        for call in [lambda: near_layings(scheme, image, most), lambda: surely_false(scheme, image, most),
                     lambda: can_stand(scheme, image, most, record, place)]:
            with self.assertRaises(error):
                call()


if __name__ == "__main__":
    unittest.main()
