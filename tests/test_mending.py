"""Point 9: the nearest layings."""

import random
import unittest
from itertools import permutations

from steplinks.distances import halfway, least_distance
from steplinks.errors import NoImage, NoNumber, NotSure, TooMany
from steplinks.layings import gainsaid, image_of, plain
from steplinks.mending import mended, nearest
from steplinks.sheets import Scheme, less, places, plus
from helping import (apart_by_hand, deep, entries_of, far_integers, images_by_hand, oddities, plain_by_hand,
                     random_laying, random_scheme, written_in)

SMALL = [((3,), (1,), 0), ((3,), (1, 2, 2), 0), ((3,), (1,), 2), ((4,), (1,), 0), ((4,), (1, 2), 0), ((4,), (2,), 1),
         ((4,), (1, 3), 1), ((2, 2), (1, 2), 0), ((2, 2), (3, 3), 1), ((5,), (1,), 0), ((5,), (1, 2, 4), 0),
         ((5,), (1,), 1), ((5,), (3, 3), 2), ((6,), (1,), 0), ((6,), (1, 3), 0), ((6,), (1, 5, 2), 0),
         ((2, 3), (1, 3), 0), ((3, 2), (5, 5), 0), ((6,), (2,), 1), ((7,), (1, 2), 0), ((7,), (3, 4), 0)]
EIGHT = [((8,), (1,), 0), ((8,), (1, 4), 0), ((8,), (3, 5, 2), 0), ((2, 4), (1, 4), 0), ((2, 4), (5, 4), 0),
         ((2, 2, 2), (1, 2, 4), 0), ((4, 2), (3, 3, 5), 0)]
WIDE = [((60,), (1,), 1), ((60,), (1, 59), 0), ((60,), (1, 2), 0), ((59,), (1, 2, 3), 0), ((60,), (1, 1, 59), 0),
        ((60,), (1, 30), 0), ((48,), (16, 3), 0), ((30,), (2, 3, 15), 0), ((60,), (1, 1, 1, 59, 59, 59), 0),
        ((45,), (7, 38), 2), ((60,), (12, 30), 1), ((12,), (1, 2, 3, 4, 5, 6), 0), ((9,), (1, 4), 1),
        ((7, 7), (1, 7), 0), ((7, 7), (1, 7, 8), 0), ((7, 7), (1, 6, 7, 42), 0), ((7, 7), (1, 7), 1),
        ((7, 7), (8,), 2), ((2, 30), (30, 1, 31), 0), ((3, 4, 4), (1, 4, 16), 0), ((5, 6), (3, 1, 6), 0)]


def damaged(rng, image, places_of_damage, unreadable):
    """An image in which some entries can't be read, and the others of some are any others."""
    entries = {entry: None for entry in places_of_damage[:unreadable]}
    for entry in places_of_damage[unreadable:]:
        entries[entry] = rng.randrange(len(image))
    return written_in(image, entries)


def nones(image):
    return sum(row.count(None) for row in image)


class Nearest(unittest.TestCase):
    def outcome(self, scheme, image, most):
        try:
            return nearest(scheme, image, most)
        except TooMany as error:
            self.assertEqual(error.most, 60)
            return "too many"

    def compare(self, scheme, pairs, image):
        """Check all about an image against all plain layings and their images."""
        counts = [len(apart_by_hand(right, image)) for _, right in pairs]
        least = min(counts)
        layings = [laying for (laying, _), count in zip(pairs, counts) if count == least]
        expected = (least, layings) if len(layings) <= 60 else "too many"
        for most in {0, least, least + 1, 400}:
            self.assertEqual(self.outcome(scheme, image, most), expected if most >= least else None,
                             (scheme.moduli, scheme.steps, scheme.numbers, image, most))
        if least > 0:
            self.assertIsNone(nearest(scheme, image, least - 1))

    def images(self, rng, pairs, many):
        """Right images, images with some damage, halfway to others, of None alone, and of anything."""
        rights = [image for _, image in pairs]
        yield rights[-1]
        yield tuple((None,) * len(row) for row in rights[0])
        for _ in range(many):
            image = rng.choice(rights)
            entries = entries_of(image)
            rng.shuffle(entries)
            yield damaged(rng, image, entries[:rng.randint(1, 8)], rng.randint(0, 4))
            other = rng.choice(rights)
            half = {entry: other[entry[0]][entry[1]] for entry in apart_by_hand(image, other)[::2]}
            yield written_in(image, half)
            yield damaged(rng, written_in(image, half), entries[:4], 4)
        for _ in range(many // 2):
            yield tuple(tuple(rng.choice([None] + list(range(len(image)))) for _ in row) for row in image)
            yield tuple((rng.randrange(len(image)),) * len(row) for row in image)

    def test_all_layings_gone_through(self):
        rng = random.Random(9)
        for triple in SMALL:
            pairs = plain_by_hand(*triple)
            for image in self.images(rng, pairs, 12):
                self.compare(Scheme(*triple), pairs, image)

    def test_each_image_of_the_least_ring(self):
        pairs = plain_by_hand((3,), (1,), 0)
        for number in range(64):
            image = tuple(((None, 0, 1, 2)[number // 4 ** record % 4],) for record in range(3))
            self.compare(Scheme((3,), (1,), 0), pairs, image)

    def test_each_laying_of_eight_places(self):
        rng = random.Random(99)
        # Links lead everywhere, so that moving a laying round leaves its image: that with 0 at place 0 is plain.
        layings = [(0,) + rest for rest in permutations(range(1, 8))]
        for triple in EIGHT:
            pairs = list(zip(layings, images_by_hand(*triple, layings)))
            for image in self.images(rng, pairs, 4):
                # More can be wrong than callers may pass.
                right = min(len(apart_by_hand(right, image)) for _, right in pairs)
                if nones(image) <= 8 and right <= 8:
                    self.compare(Scheme(*triple), pairs, image)

    def test_parts_that_do_not_fit_together(self):
        # Paths of 3, 3 and 2 records, each said right, but the two rounds of the ring have four places each.
        scheme = Scheme((8,), (2,), 1)
        image = ((1, None), (2, None), (None, None), (4, None), (5, None), (None, None), (7, None), (None, None))
        layings = list(permutations(range(8)))
        self.compare(scheme, list(zip(layings, images_by_hand((8,), (2,), 1, layings))), image)
        anchored = written_in(image, {(0, 1): 0, (3, 1): 1, (6, 1): 6})
        self.compare(scheme, list(zip(layings, images_by_hand((8,), (2,), 1, layings))), anchored)

    def test_two_records_that_only_name_each_other(self):
        # What else there is of records 0 and 24 can't be read; they do not stand side by side, as one entry says.
        scheme = Scheme((7, 7), (1, 7), 0)
        right = image_of(scheme, tuple(range(49)))
        hidden = [(0, 1), (6, 0), (42, 1), (24, 0), (24, 1), (23, 0), (17, 1)]
        image = written_in(right, {**{entry: None for entry in hidden}, (0, 0): 24})
        one = tuple(range(49))
        other = (24,) + one[1:24] + (0,) + one[25:]
        self.assertEqual(nearest(scheme, image, 400), (1, sorted([one, plain(scheme, other)])))
        self.assertIsNone(nearest(scheme, image, 0))

    def test_paths_in_any_order(self):
        ring = Scheme((60,), (1,), 0)
        right = image_of(ring, tuple(range(60)))
        cuts = [9, 20, 21, 40, 55]
        image = written_in(right, {(cut, 0): None for cut in cuts})
        starts = [0] + [cut + 1 for cut in cuts]
        stretches = [tuple(range(start, end)) for start, end in zip(starts, starts[1:] + [60])]
        # The last stretch and the first one hang together.
        head, rest = stretches[-1] + stretches[0], stretches[1:-1]
        expected = sorted(plain(ring, sum(order, head)) for order in permutations(rest))
        self.assertEqual(len(expected), 24)
        for most in [0, 400]:
            self.assertEqual(nearest(ring, image, most), (0, expected))
        image = written_in(image, {(30, 0): None})
        for most in [0, 400]:
            with self.assertRaises(TooMany) as caught:
                nearest(ring, image, most)
            self.assertEqual(caught.exception.most, 60)

    def test_two_rings_apart(self):
        for many, first, expected in [(10, 3, 21), (16, 6, 60), (17, 6, "too many"), (60, 20, "too many")]:
            ring = Scheme((many,), (1,), 0)
            image = written_in(image_of(ring, tuple(range(many))), {(first - 1, 0): 0, (many - 1, 0): first})
            self.assertIsNone(nearest(ring, image, 1))
            for most in [2, 400]:
                found = self.outcome(ring, image, most)
                if expected == "too many":
                    self.assertEqual(found, expected)
                else:
                    own = [tuple(range(first)), tuple(range(first, many))]
                    orders = [plain(ring, own[0][a:] + own[0][:a] + own[1][b:] + own[1][:b])
                              for a in range(first) for b in range(many - first)]
                    self.assertEqual(found, (2, sorted(orders)))
                    self.assertEqual(len(orders), expected)

    def test_planted_damage(self):
        rng = random.Random(999)
        for triple in WIDE + [((60,), (1,), 0)] + [
                (scheme.moduli, scheme.steps, scheme.numbers) for scheme in
                [random_scheme(rng, moduli, kinds, numbers) for moduli in [(60,), (7, 7), (31,), (2, 20), (10,)]
                 for kinds, numbers in [(2, 1), (3, 2), (5, 0), (6, 3)]]]:
            scheme = Scheme(*triple)
            for spread in ["far", "near", "own"]:
                self.plant(rng, scheme, spread)

    def plant(self, rng, scheme, spread):
        """Spoil entries of a right image, far apart or side by side, and check what is found."""
        laying = plain(scheme, random_laying(rng, places(scheme)))
        right = images_by_hand(scheme.moduli, scheme.steps, scheme.numbers, [laying])[0]
        entries = entries_of(right)
        rng.shuffle(entries)
        if spread == "near":
            place = rng.randrange(places(scheme))
            around = [place] + [plus(scheme, place, step) for step in scheme.steps]
            around += [less(scheme, place, step) for step in scheme.steps]
            entries.sort(key=lambda entry: laying.index(entry[0]) not in around)
        elif spread == "own":
            entries.sort()
        all_wrong = rng.randint(1, 8)
        image = damaged(rng, right, entries[:all_wrong], rng.choice([0, 0, rng.randint(0, all_wrong)]))
        false = len(apart_by_hand(right, image))
        if 2 * false + nones(image) < least_distance(scheme):
            self.assertEqual(nearest(scheme, image, 400), (false, [laying]))
        self.check_found(scheme, image, laying, false)

    def check_found(self, scheme, image, laying, false):
        """Check what can be told of the nearest layings if one is known that gainsays so many entries."""
        found = self.outcome(scheme, image, 400)
        if found == "too many":
            self.assertEqual(self.outcome(scheme, image, false), found)
            return
        least, layings = found
        self.assertLessEqual(least, false)
        self.assertEqual(laying in layings, least == false)
        self.assertEqual(layings, sorted(set(layings)))
        for other in layings:
            self.assertEqual((plain(scheme, other), len(gainsaid(scheme, other, image))), (other, least))
        self.assertEqual(nearest(scheme, image, least), found)
        if least > 0:
            self.assertIsNone(nearest(scheme, image, least - 1))

    def test_what_several_entries_say(self):
        # Up to eight times two records are said to stand a step apart, by up to six entries each.
        rng = random.Random(9999)
        for moduli, steps in [((60,), (1, 1, 1, 59, 59, 59)), ((7, 7), (8, 40, 8, 1, 6)), ((30,), (1, 29, 15)),
                              ((60,), (1, 59, 1, 59, 2, 58))]:
            scheme = Scheme(moduli, steps, 0)
            for _ in range(6):
                laying = plain(scheme, random_laying(rng, places(scheme)))
                entries = {}
                for _ in range(8):
                    step = rng.choice(steps)
                    record, other = rng.sample(range(places(scheme)), 2)
                    for kind, own in enumerate(steps):
                        if own == step:
                            entries[record, kind] = other
                        if own == less(scheme, 0, step):
                            entries[other, kind] = record
                image = written_in(image_of(scheme, laying), entries)
                false = len(gainsaid(scheme, laying, image))
                self.check_found(scheme, image, laying, false)

    def test_halfway_between_two(self):
        for triple in WIDE:
            scheme = Scheme(*triple)
            distance = least_distance(scheme)
            if distance <= 16 and distance % 2 == 0:
                image, one, other = halfway(scheme, distance // 2, 0)
                least, layings = nearest(scheme, image, 400)
                self.assertEqual(least, distance // 2)
                self.assertLessEqual({one, other}, set(layings))

    def test_great_sheets(self):
        rng = random.Random(400)
        for triple in [((400,), (1, 2), 0), ((20, 20), (1, 20), 1), ((4, 10, 10), (1, 10, 100, 399), 3)]:
            scheme = Scheme(*triple)
            laying = plain(scheme, random_laying(rng, 400))
            entries = entries_of(image_of(scheme, laying))
            image = damaged(rng, image_of(scheme, laying), rng.sample(entries, 4), 2)
            self.assertEqual(nearest(scheme, image, 400), (len(gainsaid(scheme, laying, image)), [laying]))
        for scheme in [Scheme((400,), (1,), 0), Scheme((400,), (2,), 1)]:
            image = ((None,) * (1 + scheme.numbers),) * 400
            self.assertEqual(self.outcome(scheme, image, 0), "too many")

    def test_a_new_list(self):
        for scheme in [Scheme((5,), (1,), 0), Scheme((9,), (1, 2), 0)]:
            laying = tuple(range(places(scheme)))
            image = image_of(scheme, laying)
            found = nearest(scheme, image, 0)
            self.assertEqual([type(found), type(found[0]), type(found[1]), type(found[1][0])],
                             [tuple, int, list, tuple])
            found[1].append("more")
            self.assertEqual(nearest(scheme, image, 0), (0, [laying]))

    def test_wrong_arguments(self):
        for scheme in [Scheme((4,), (1, 2), 0), Scheme((8,), (1,), 1)]:
            image = image_of(scheme, tuple(range(places(scheme))))
            hidden = tuple((None,) * len(row) for row in image)
            for wrong in oddities() + far_integers() + [(), "1", (1,), -1, 401, [1]]:
                before = repr(wrong)
                for handed in [image, hidden]:
                    with self.assertRaises(NoNumber):
                        nearest(scheme, handed, wrong)
                    with self.assertRaises(NoNumber):
                        mended(scheme, handed, wrong)
                for number in [0, 400, 401, None, wrong, deep(lambda inner: (inner,))]:
                    for thing in [wrong, list(image), image[1:], image + image[:1], (image[0] + (0,),) + image[1:],
                                  (list(image[0]),) + image[1:], written_in(image, {(1, 0): wrong if wrong is not None
                                                                                    else -1})]:
                        with self.assertRaises(NoImage):
                            nearest(scheme, thing, number)
                        with self.assertRaises(NoImage):
                            mended(scheme, thing, number)
                self.assertEqual(repr(wrong), before)


class Mended(unittest.TestCase):
    def test_small(self):
        rng = random.Random(90)
        for triple in SMALL:
            scheme = Scheme(*triple)
            pairs = plain_by_hand(*triple)
            distance = least_distance(scheme)
            for _ in range(20):
                laying, right = rng.choice(pairs)
                entries = entries_of(right)
                rng.shuffle(entries)
                image = damaged(rng, right, entries[:rng.randint(0, 5)], rng.randint(0, 3))
                for false in range(distance + 1):
                    if 2 * false + nones(image) < distance:
                        near = [own for own, other in pairs if len(apart_by_hand(other, image)) <= false]
                        self.assertLessEqual(len(near), 1)
                        self.assertEqual(mended(scheme, image, false), near[0] if near else None)
                    else:
                        with self.assertRaises(NotSure) as caught:
                            mended(scheme, image, false)
                        self.assertEqual(caught.exception.distance, distance)

    def test_planted_damage(self):
        rng = random.Random(900)
        for triple in WIDE + [((7,), (1, 2, 3), 1), ((2, 3), (1, 3), 3), ((400,), (1, 20, 21), 1)]:
            scheme = Scheme(*triple)
            distance = least_distance(scheme)
            for false in range(0, (distance + 1) // 2):
                for unreadable in {0, distance - 1 - 2 * false}:
                    if false + unreadable <= 8:
                        self.plant(rng, scheme, distance, false, unreadable)

    def plant(self, rng, scheme, distance, false, unreadable):
        """Spoil so many entries, within the bound, and check what is mended, and around the bound."""
        laying = plain(scheme, random_laying(rng, places(scheme)))
        right = image_of(scheme, laying)
        entries = rng.sample(entries_of(right), false + unreadable)
        changes = {entry: None for entry in entries[:unreadable]}
        for record, kind in entries[unreadable:]:
            names = [name for name in range(places(scheme)) if name != right[record][kind]]
            changes[record, kind] = rng.choice(names)
        image = written_in(right, changes)
        for let in range(distance // 2 + 2):
            if 2 * let + unreadable >= distance:
                with self.assertRaises(NotSure) as caught:
                    mended(scheme, image, let)
                self.assertEqual(caught.exception.distance, distance)
            else:
                self.assertEqual(mended(scheme, image, let), laying if let >= false else None)

    def test_none_alone(self):
        for triple in SMALL + WIDE:
            scheme = Scheme(*triple)
            image = ((None,) * (len(scheme.steps) + scheme.numbers),) * places(scheme)
            for false in [0, 1, 400]:
                with self.assertRaises(NotSure) as caught:
                    mended(scheme, image, false)
                self.assertEqual(caught.exception.distance, least_distance(scheme))

    def test_what_comes_first(self):
        scheme = Scheme((9,), (1,), 0)
        image = image_of(scheme, tuple(range(9)))
        self.assertEqual(mended(scheme, image, 1), tuple(range(9)))
        for false in [2, 400]:
            with self.assertRaises(NotSure):
                mended(scheme, image, false)
        for false in [401, -1, True, None]:
            with self.assertRaises(NoNumber):
                mended(scheme, ((None,),) * 9, false)
            with self.assertRaises(NoImage):
                mended(scheme, ((None,),) * 8, false)

    def test_a_plain_laying(self):
        scheme = Scheme((5,), (1, 2), 0)
        found = mended(scheme, image_of(scheme, (3, 1, 0, 2, 4)), 0)
        self.assertEqual(found, (0, 2, 4, 3, 1))
        self.assertIs(type(found), tuple)


if __name__ == "__main__":
    unittest.main()
