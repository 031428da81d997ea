"""Point 8: the least distance, and images halfway between two layings."""

import random
import unittest
from itertools import combinations

from steplinks.distances import halfway, is_halfway, least_distance, two_layings
from steplinks.errors import NoNumber
from steplinks.layings import image_of, plain, unlike
from steplinks.sheets import Scheme, places
from helping import (apart_by_hand, deep, entries_of, far_integers, images_by_hand, oddities, plain_by_hand,
                     random_scheme, table_by_hand, written_in)

# Equal steps, opposite ones, such that added to themselves give 0, with numbers and without.
SMALL = [((3,), (1,), 0), ((3,), (1, 2), 0), ((3,), (1, 1, 1), 0), ((3,), (2,), 1), ((3,), (1, 2), 3),
         ((4,), (1,), 0), ((4,), (1, 3), 0), ((4,), (1, 2), 0), ((4,), (2, 3), 0), ((4,), (2, 2, 1), 0),
         ((4,), (1, 1, 3), 0), ((4,), (2,), 1), ((4,), (2,), 2), ((4,), (2, 2), 3), ((2, 2), (1, 2), 0),
         ((2, 2), (1, 3, 3), 0), ((2, 2), (1,), 1), ((2, 2), (1, 1, 2), 1), ((2, 2), (1, 2, 3), 0), ((5,), (1,), 0),
         ((5,), (1, 4), 0), ((5,), (1, 2), 0), ((5,), (2, 3, 3), 0), ((5,), (1,), 1), ((5,), (1, 1), 2)]
SIX = [((6,), (1,), 0), ((6,), (1, 5), 0), ((6,), (1, 3), 0), ((6,), (3, 2), 0), ((6,), (3, 3, 2), 0),
       ((6,), (2, 4, 3), 0), ((6,), (1, 2, 3), 0), ((6,), (2,), 1), ((6,), (3,), 1), ((6,), (3,), 2),
       ((2, 3), (4,), 0), ((2, 3), (1, 3), 0), ((3, 2), (1, 2, 4), 0), ((2, 3), (3, 1, 1), 0), ((2, 3), (1,), 1),
       ((2, 3), (3, 3), 1), ((3, 2), (5, 5, 1), 3)]
BIG = [((9,), (1, 2, 3), 0), ((12,), (1, 6), 0), ((12,), (4, 3), 0), ((12,), (6, 6, 4, 3), 0), ((60,), (1, 30), 0),
       ((7, 7), (1, 7), 0), ((2, 200), (200, 1), 0), ((400,), (1, 399, 200), 1), ((4, 10, 10), (1, 10, 100), 0),
       ((2, 2, 100), (100, 200, 300, 1, 1, 399), 2), ((210,), (105, 70, 42, 30), 3), ((210,), (105, 70, 42, 30), 0),
       ((400,), (1, 1, 1, 399, 399, 399), 3), ((400,), (16, 25), 0), ((400,), (200,), 1)]


def least_by_hand(moduli, steps, numbers):
    """The least distance of two layings that are not alike, by going through all of them."""
    images = [image for _, image in plain_by_hand(moduli, steps, numbers)]
    return min(len(apart_by_hand(images[0], image)) for image in images[1:])


def closed_by_hand(sums, steps):
    """The places that sums of some steps give."""
    found = {0}
    while True:
        more = found | {sums[place, step] for place in found for step in steps}
        if more == found:
            return found
        found = more


def least_by_fact(moduli, steps, numbers):
    """The least distance, by the fact of point 8."""
    sums = table_by_hand(moduli)
    alike = [sum(1 for other in steps if other == step or sums[other, step] == 0)
             for step in steps if sums[step, step] != 0]
    found = [4 * len(steps) - max(alike, default=0) + 2 * numbers]
    for many in range(len(steps) + 1):
        for lot in combinations(steps, many):
            inside = closed_by_hand(sums, lot)
            out = sum(1 for step in steps if step not in inside)
            if len(inside) > 1:
                found.append(len(inside) * (2 * out + numbers))
    return min(number for number in found if number > 0)


class Distances(unittest.TestCase):
    def test_the_example(self):
        found = [least_distance(Scheme((9,), steps, 0)) for steps in [(1,), (1, 8), (1, 2), (1, 2, 3)]]
        self.assertEqual(found, [3, 6, 7, 11])
        self.assertEqual(least_distance(Scheme((6,), (1, 3), 0)), 4)

    def test_by_eye(self):
        self.assertEqual(least_distance(Scheme((7, 7), (1, 7), 0)), 7)
        self.assertEqual(least_distance(Scheme((60,), (1, 30), 0)), 4)
        self.assertEqual(least_distance(Scheme((6,), (3,), 1)), 2)
        self.assertEqual(least_distance(Scheme((400,), (1,), 3)), 9)

    def test_all_layings_gone_through(self):
        for triple in SMALL + SIX:
            self.assertEqual(least_distance(Scheme(*triple)), least_by_hand(*triple), triple)

    def test_all_pairs_of_layings_gone_through(self):
        for triple in SMALL[:19]:
            images = [image for _, image in plain_by_hand(*triple)]
            least = min(len(apart_by_hand(one, other)) for one, other in combinations(images, 2))
            self.assertEqual(least_distance(Scheme(*triple)), least, triple)

    def test_the_fact_on_greater_sheets(self):
        rng = random.Random(8)
        schemes = [Scheme(*triple) for triple in BIG]
        for moduli in [(7,), (8,), (2, 4), (2, 2, 2), (12,), (3, 3), (2, 6), (36,), (5, 5), (2, 3, 4), (48,), (60,)]:
            for kinds in range(1, 7):
                schemes.append(random_scheme(rng, moduli, kinds, rng.choice([1, 2, 3])))
        for moduli in [(7,), (9,), (12,), (2, 4), (3, 4), (30,), (2, 10), (40,)]:
            for kinds in range(3, 7):
                schemes.append(random_scheme(rng, moduli, kinds, 0))
        for scheme in schemes:
            triple = (scheme.moduli, scheme.steps, scheme.numbers)
            self.assertEqual(least_distance(scheme), least_by_fact(*triple), triple)

    def test_an_integer(self):
        self.assertIs(type(least_distance(Scheme((3,), (1,), 0))), int)


class TwoLayings(unittest.TestCase):
    def test_small(self):
        for triple in SMALL + SIX:
            scheme = Scheme(*triple)
            pair = two_layings(scheme)
            self.assertIs(type(pair), tuple)
            one, other = pair
            layings = [laying for laying, _ in plain_by_hand(*triple)]
            self.assertIn(one, layings)
            self.assertIn(other, layings)
            self.assertNotEqual(one, other)
            first, second = images_by_hand(*triple, pair)
            self.assertEqual(len(apart_by_hand(first, second)), least_by_hand(*triple), triple)

    def test_big(self):
        for triple in BIG:
            scheme = Scheme(*triple)
            one, other = two_layings(scheme)
            self.assertEqual((plain(scheme, one), plain(scheme, other)), (one, other))
            self.assertNotEqual(image_of(scheme, one), image_of(scheme, other))
            self.assertEqual(len(unlike(scheme, one, other)), least_distance(scheme), triple)

    def test_equal_calls(self):
        for triple in SMALL:
            self.assertEqual(two_layings(Scheme(*triple)), two_layings(Scheme(*triple)))


class Halfway(unittest.TestCase):
    def right(self, scheme, false, unreadable, found):
        """Check a triple by the document's words alone."""
        self.assertIs(type(found), tuple)
        image, one, other = found
        rights = images_by_hand(scheme.moduli, scheme.steps, scheme.numbers, [one, other])
        self.assertEqual((plain(scheme, one), plain(scheme, other)), (one, other))
        self.assertNotEqual(rights[0], rights[1])
        self.assertEqual([type(image), len(image)], [tuple, places(scheme)])
        entries = [image[record][kind] for record, kind in entries_of(image)]
        self.assertEqual({len(row) for row in image}, {len(scheme.steps) + scheme.numbers})
        self.assertEqual(entries.count(None), unreadable)
        self.assertLessEqual({type(entry) for entry in entries}, {int, type(None)})
        self.assertLessEqual({entry for entry in entries if entry is not None}, set(range(places(scheme))))
        for right in rights:
            self.assertLessEqual(len(apart_by_hand(right, image)), false)
        self.assertIs(is_halfway(scheme, false, unreadable, found), True)

    def test_just_where_the_fact_says_so(self):
        for triple in SMALL + SIX[:9]:
            scheme = Scheme(*triple)
            least = least_by_hand(*triple)
            many = places(scheme) * (len(scheme.steps) + scheme.numbers)
            for false in [0, 1, 2, least // 2 - 1, least // 2, least // 2 + 1, 40]:
                for unreadable in [0, 1, 2, least - 1, least, least - 2 * false - 1, least - 2 * false,
                                   least - 2 * false + 1, many - 1, many, many + 1, 39, 40]:
                    if false < 0 or not 0 <= unreadable <= 40:
                        continue
                    found = halfway(scheme, false, unreadable)
                    if 2 * false + unreadable >= least and unreadable <= many:
                        self.right(scheme, false, unreadable, found)
                    else:
                        self.assertIsNone(found, (triple, false, unreadable))

    def test_around_the_bound_of_greater_sheets(self):
        for triple in BIG:
            scheme = Scheme(*triple)
            least = least_distance(scheme)
            for false in range(0, least // 2 + 2, 3):
                for unreadable in [least - 2 * false - 1, least - 2 * false, least - 2 * false + 2]:
                    if unreadable >= 0:
                        found = halfway(scheme, false, unreadable)
                        if 2 * false + unreadable < least:
                            self.assertIsNone(found)
                        else:
                            self.right(scheme, false, unreadable, found)
            unreadable = min(40, places(scheme) * (len(scheme.steps) + scheme.numbers))
            self.right(scheme, 40, unreadable, halfway(scheme, 40, unreadable))
            self.assertIsNone(halfway(scheme, 0, 0))

    def test_more_unreadable_than_entries(self):
        scheme = Scheme((3,), (1,), 0)
        self.right(scheme, 0, 3, halfway(scheme, 0, 3))
        for unreadable in [4, 5, 40]:
            self.assertIsNone(halfway(scheme, 40, unreadable))

    def test_equal_calls(self):
        scheme = Scheme((2, 3), (1, 3), 1)
        self.assertEqual(halfway(scheme, 3, 4), halfway(Scheme((2, 3), (1, 3), 1), 3, 4))

    def test_no_number(self):
        scheme = Scheme((5,), (1,), 0)
        thing = halfway(scheme, 2, 0)
        for wrong in oddities() + far_integers() + [(), "1", (1,), -1, 41]:
            before = repr(wrong)
            for numbers in [(wrong, 0), (2, wrong), (wrong, wrong), (40, wrong), (wrong, 41)]:
                with self.assertRaises(NoNumber):
                    halfway(scheme, *numbers)
                for last in [thing, None, deep(lambda inner: (inner,))]:
                    with self.assertRaises(NoNumber):
                        is_halfway(scheme, *numbers, last)
            self.assertEqual(repr(wrong), before)


class IsHalfway(unittest.TestCase):
    scheme = Scheme((6,), (1, 3), 0)

    def test_exchanged_layings(self):
        for triple in SMALL + SIX:
            scheme = Scheme(*triple)
            least = least_distance(scheme)
            image, one, other = halfway(scheme, (least + 1) // 2, 0)
            self.assertIs(is_halfway(scheme, (least + 1) // 2, 0, (image, other, one)), True)
            self.assertIs(is_halfway(scheme, (least + 1) // 2 - 1, 0, (image, one, other)), False)
            self.assertIs(is_halfway(scheme, 40, 0, (image, one, other)), True)
            self.assertIs(is_halfway(scheme, 40, 1, (image, one, other)), False)

    def test_any_two_layings_and_image(self):
        # By going through: ring of four, all pairs of plain layings, some images.
        rng = random.Random(88)
        triple = ((4,), (1, 2), 0)
        scheme = Scheme(*triple)
        pairs = plain_by_hand(*triple)
        for _ in range(60):
            image = tuple(tuple(rng.choice([None, 0, 1, 2, 3]) for _ in range(2)) for _ in range(4))
            unreadable = sum(row.count(None) for row in image)
            for one, first in pairs:
                for other, second in pairs:
                    most = max(len(apart_by_hand(first, image)), len(apart_by_hand(second, image)))
                    thing = (image, one, other)
                    self.assertIs(is_halfway(scheme, most, unreadable, thing), one != other)
                    if most > 0:
                        self.assertIs(is_halfway(scheme, most - 1, unreadable, thing), False)

    def test_one_entry_changed(self):
        image, one, other = halfway(self.scheme, 2, 0)
        right = self.count(image, one, other)
        self.assertEqual(right, [2, 2])
        for entry in entries_of(image):
            for changed in [None, 0, 1, 2, 3, 4, 5]:
                thing = (written_in(image, {entry: changed}), one, other)
                expected = changed is not None and max(self.count(*thing)) <= 2
                self.assertIs(is_halfway(self.scheme, 2, 0, thing), expected)
                self.assertIs(is_halfway(self.scheme, 2, 1, thing), changed is None)
            for wrong in [6, -1, True, False, "0", (0,), [0], 10 ** 999]:
                thing = (written_in(image, {entry: wrong}), one, other)
                self.assertIs(is_halfway(self.scheme, 40, 0, thing), False)

    def count(self, image, one, other):
        rights = images_by_hand((6,), (1, 3), 0, [one, other])
        return [len(apart_by_hand(right, image)) for right in rights]

    def test_one_thing_changed(self):
        image, one, other = halfway(self.scheme, 2, 0)
        row = image[0]
        images = [image[1:], image + (row,), (row[1:],) + image[1:], (row + (0,),) + image[1:],
                  (list(row),) + image[1:], (None,) + image[1:], list(image), (), None, one, (image,), dict(enumerate(image))]
        # Moved round, a laying is no longer plain.
        layings = [other[1:] + other[:1], other[:-1], other + (0,), other[:-1] + (0,), other[:-1] + (6,), list(other),
                   (), None, image, (other,), (False,) + other[1:], (None,) + other[1:], "012345"]
        things = [(wrong, one, other) for wrong in images]
        things += [(image, one, wrong) for wrong in layings] + [(image, wrong, other) for wrong in layings]
        things += [(image, one, one), (image, other, other), (image, one), (image,), (), (one, other),
                   (image, one, other, one), (image, one, other, None), (one, image, other), [image, one, other],
                   {0: image, 1: one, 2: other}, ((image, one, other),), image]
        for thing in things + oddities() + far_integers():
            before = repr(thing)
            self.assertIs(is_halfway(self.scheme, 40, 0, thing), False, thing)
            self.assertEqual(repr(thing), before)
        self.assertIs(is_halfway(self.scheme, 40, 0, (image, one, other)), True)

    def test_deep_parts(self):
        image, one, other = halfway(self.scheme, 2, 0)
        for make in [lambda inner: (inner,), lambda inner: [inner], lambda inner: {0: inner}]:
            wrong = deep(make, levels=27)
            for thing in [(wrong, one, other), (image, wrong, other), (image, one, wrong),
                          (written_in(image, {(0, 0): wrong}), one, other), (image, (wrong,) + one[1:], other)]:
                self.assertIs(is_halfway(self.scheme, 40, 0, thing), False)

    def test_numbers_make_turned_layings_plain(self):
        scheme = Scheme((3,), (1,), 1)
        thing = (((1, 0), (2, 1), (0, 2)), (0, 1, 2), (1, 2, 0))
        self.assertIs(is_halfway(scheme, 3, 0, thing), True)
        self.assertIs(is_halfway(scheme, 2, 0, thing), False)


if __name__ == "__main__":
    unittest.main()
