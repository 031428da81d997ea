"""Point 12: windows, and rings mended with damage all along."""

import random
import unittest
from math import gcd

from steplinks.errors import NoImage, NoNumber, NotRing, NotWide
from steplinks.layings import image_of, plain
from steplinks.rings import mended_ring, window
from steplinks.sheets import Scheme, places
from helping import deep, far_integers, image_by_hand, images_by_hand, oddities, random_laying, written_in

# Lengths of steps, numbers and `often` with which a ring is wide enough if it has as many places as a window.
WIDE = [((1,), 1, 1), ((1,), 2, 1), ((1,), 3, 2), ((1, 1), 1, 2), ((1, 2), 0, 1), ((1, 2), 2, 2), ((2, 3), 0, 1),
        ((1, 1, 1), 0, 1), ((1, 1, 2), 0, 1), ((1, 1), 2, 1), ((3, 2, 2), 1, 3), ((2, 2, 1), 2, 3), ((1, 2, 3), 0, 2),
        ((3, 1, 3, 1), 0, 3), ((1, 2, 2, 1), 2, 4), ((1, 1, 1, 1), 0, 1), ((4, 3), 1, 2), ((1, 4), 0, 1),
        ((1, 1, 1, 1, 1, 2), 3, 6), ((1, 10), 0, 1), ((2, 1, 2), 3, 4)]


def window_by_hand(lengths, often):
    return 2 * max(lengths) * (4 * often + 2)


def drawn_steps(rng, many, lengths):
    return tuple(rng.choice([length, many - length]) for length in lengths)


def ring_of(rng, many, lengths, numbers):
    return Scheme((many,), drawn_steps(rng, many, lengths), numbers)


def right_image(scheme, laying):
    return images_by_hand(scheme.moduli, scheme.steps, scheme.numbers, [laying])[0]


def wrong_in_window(laying, image, right, wide):
    """The most entries that are unlike the right ones of records among so many places running."""
    counts = [sum(entry != own for entry, own in zip(image[record], right[record])) for record in laying]
    return max(sum(counts[(first + step) % len(laying)] for step in range(wide)) for first in range(len(laying)))


def damaged_places(rng, many, kinds, wide, often):
    """Pairs (place, kind), as many as can be with at most so many in each window."""
    found = []
    inside = [0] * many
    pairs = [(place, kind) for place in range(many) for kind in range(kinds)]
    rng.shuffle(pairs)
    if rng.random() < 0.3:
        # Side by side.
        pairs.sort(key=lambda pair: pair[0])
    for place, kind in pairs:
        windows = [(place - step) % many for step in range(wide)]
        if all(inside[first] < often for first in windows):
            for first in windows:
                inside[first] += 1
            found.append((place, kind))
    return found


def changed_laying(rng, laying):
    """A laying in which records, or stretches, far apart stand for one another."""
    many = len(laying)
    gap = rng.randint(4, 30)
    cuts = list(range(0, many, gap))
    if rng.random() < 0.5:
        row = list(laying)
        for one, other in zip(cuts, cuts[1:] + cuts[:1]):
            row[one] = laying[other]
        return tuple(row)
    stretches = [laying[cut:cut + gap] for cut in cuts]
    rng.shuffle(stretches)
    return tuple(record for stretch in stretches for record in stretch)


class Window(unittest.TestCase):
    def test_the_formula(self):
        for many in (3, 4, 7, 60, 400):
            for step in range(1, many):
                for often in range(1, 7):
                    length = min(step, many - step)
                    self.assertEqual(window(Scheme((many,), (step,), 1), often), 2 * length * (4 * often + 2))
                    self.assertEqual(window(Scheme((many,), (1, step, many - 1), 0), often),
                                     window_by_hand((1, length), often))

    def test_examples(self):
        self.assertEqual(window(Scheme((9,), (1,), 0), 1), 12)
        self.assertEqual(window(Scheme((9,), (8, 7), 0), 1), 24)
        self.assertEqual(window(Scheme((6,), (2,), 2), 6), 104)

    def test_what_is_refused(self):
        ring = Scheme((6,), (1, 2), 0)
        for wrong in oddities() + far_integers() + [(), 0, 7, -1, "1", (1,)]:
            before = repr(wrong)
            with self.assertRaises(NoNumber):
                window(ring, wrong)
            with self.assertRaises(NotRing):
                window(Scheme((2, 3), (1, 3), 0), wrong)
            self.assertEqual(repr(wrong), before)
        for sheet in [Scheme((2, 2), (1, 2), 3), Scheme((20, 20), (1, 20), 0), Scheme((2, 2, 2), (1, 2, 4), 0)]:
            with self.assertRaises(NotRing):
                window(sheet, 1)


class Mended(unittest.TestCase):
    def test_as_wide_as_the_window_and_one_less(self):
        rng = random.Random(12)
        for lengths, numbers, often in WIDE:
            wide = window_by_hand(lengths, often)
            for many in (wide, wide + 1):
                scheme = ring_of(rng, many, lengths, numbers)
                laying = random_laying(rng, many)
                self.assertEqual(window(scheme, often), wide)
                self.assertEqual(mended_ring(scheme, image_of(scheme, laying), often), plain(scheme, laying))
            scheme = ring_of(rng, wide - 1, lengths, numbers)
            with self.assertRaises(NotWide):
                mended_ring(scheme, image_of(scheme, tuple(range(wide - 1))), often)

    def check(self, scheme, laying, image, often):
        """Check what is mended if a laying is known that has at most one wrong entry more in each window."""
        wide = window(scheme, often)
        found = mended_ring(scheme, image, often)
        right = image_by_hand(scheme.moduli, scheme.steps, scheme.numbers, laying)
        if wrong_in_window(laying, image, right, wide) <= often:
            self.assertEqual(found, laying)
        elif found is not None:
            # Another laying may be right in this sense.
            self.assertNotEqual(found, laying)
            self.assertEqual(plain(scheme, found), found)
            self.assertLessEqual(wrong_in_window(found, image, image_of(scheme, found), wide), often)
        return found

    def test_damage_all_along(self):
        rng = random.Random(121)
        for lengths, numbers, often in WIDE:
            wide = window_by_hand(lengths, often)
            for more in (0, rng.randint(1, 100), 100):
                scheme = ring_of(rng, min(400, wide + more), lengths, numbers)
                many = places(scheme)
                laying = plain(scheme, random_laying(rng, many))
                right = right_image(scheme, laying)
                style = rng.choice(["any", "none", "near"])
                entries = {}
                for place, kind in damaged_places(rng, many, len(right[0]), wide, often):
                    false = rng.randrange(many)
                    if style == "near":
                        false = laying[(place + rng.randint(-5, 5)) % many]
                    unreadable = style == "none" or rng.random() < 0.3
                    entries[laying[place], kind] = None if unreadable else false
                self.assertEqual(self.check(scheme, laying, written_in(right, entries), often), laying)

    def test_damage_that_agrees(self):
        # Entries say what another laying says, as far as that is let; and one more in each window.
        rng = random.Random(122)
        for lengths, numbers, often in WIDE:
            wide = window_by_hand(lengths, often)
            for more in (0, 1):
                scheme = ring_of(rng, min(400, wide + rng.randint(0, 100)), lengths, numbers)
                laying = plain(scheme, random_laying(rng, places(scheme)))
                right = right_image(scheme, laying)
                other = right_image(scheme, changed_laying(rng, laying))
                pairs = damaged_places(rng, places(scheme), len(right[0]), wide, often + more)
                entries = {(laying[place], kind): other[laying[place]][kind] for place, kind in pairs}
                self.check(scheme, laying, written_in(right, entries), often)

    def test_one_more_than_is_let(self):
        rng = random.Random(123)
        for lengths, numbers, often in WIDE:
            wide = window_by_hand(lengths, often)
            scheme = ring_of(rng, min(400, wide + rng.randint(0, 100)), lengths, numbers)
            many = places(scheme)
            laying = plain(scheme, random_laying(rng, many))
            right = right_image(scheme, laying)
            first = rng.randrange(many)
            near = [(laying[(first + step) % many], kind) for step in range(often + 1) for kind in range(len(right[0]))]
            for false in (False, True):
                entries = {}
                for record, kind in rng.sample(near, often + 1):
                    # As drawn names say nothing in common, no other laying gainsays as few.
                    names = [name for name in range(many) if name != right[record][kind]]
                    entries[record, kind] = rng.choice(names) if false else None
                self.assertIsNone(mended_ring(scheme, written_in(right, entries), often))
                entries.popitem()
                self.assertEqual(mended_ring(scheme, written_in(right, entries), often), laying)

    def test_wrong_entries_a_window_apart(self):
        # Among 12 places running there may be one; which 12 do not count round the end twice.
        scheme = Scheme((30,), (1, 1, 29), 0)
        laying = plain(scheme, random_laying(random.Random(124), 30))
        right = image_of(scheme, laying)
        for one, other, expected in [(0, 12, laying), (0, 11, None), (0, 18, laying), (0, 19, None), (5, 5, None),
                                     (29, 10, None), (29, 11, laying), (20, 29, None), (4, 4, None)]:
            image = written_in(right, {(laying[one], 0): None, (laying[other], 1): laying[one]})
            self.assertEqual(mended_ring(scheme, image, 1), expected, (one, other))

    def test_halfway_between_two(self):
        # Two records far apart, each of which some entries tell at the other's place.
        scheme = Scheme((40,), (1,), 1)
        one = tuple(range(40))
        other = one[:10] + (30,) + one[11:30] + (10,) + one[31:]
        for first, second in [(one, other), (other, one)]:
            right, changed = image_of(scheme, first), image_of(scheme, second)
            image = written_in(right, {(record, 0): changed[record][0] for record in (9, 29)})
            self.assertEqual(mended_ring(scheme, image, 1), first)
            # In each of two windows, the first one has two wrong entries then, the second one has one.
            image = written_in(right, {(record, 0): changed[record][0] for record in (9, 29, 10, 30)})
            self.assertEqual(mended_ring(scheme, image, 1), second)

    def test_an_image_of_nothing(self):
        for lengths, numbers, often in WIDE:
            scheme = ring_of(random.Random(1), min(400, window_by_hand(lengths, often) + 5), lengths, numbers)
            image = ((None,) * (len(lengths) + numbers),) * places(scheme)
            self.assertIsNone(mended_ring(scheme, image, often))

    def refused(self, error, scheme, image, often):
        with self.assertRaises(error):
            mended_ring(scheme, image, often)

    def test_each_part_of_not_wide(self):
        for many, steps, numbers, often, wide in [
                (12, (1,), 1, 1, True), (11, (1,), 1, 1, False), (12, (11,), 1, 1, True),
                # 2 often against 2 d + c.
                (60, (1,), 1, 2, False), (60, (1,), 2, 2, False), (60, (1,), 3, 2, True), (60, (1, 1), 0, 2, False),
                (60, (1, 1), 1, 2, True), (60, (1, 2), 1, 2, True), (60, (1, 2), 0, 2, False),
                # The sum of the lengths, if there are no numbers.
                (60, (1,), 0, 1, False), (60, (1, 1), 0, 1, False), (60, (1, 59), 0, 1, False),
                (60, (1, 1), 1, 1, True), (60, (1, 2), 0, 1, True), (60, (1, 58), 0, 1, True),
                (60, (1, 1, 1), 0, 1, True), (61, (1, 1, 59), 0, 2, False), (61, (1, 2, 59), 0, 2, True),
                # Lengths that have a common divisor, though all places can be come to, or not.
                (61, (2,), 1, 1, False), (60, (2,), 1, 1, False), (61, (2, 2), 0, 1, False), (60, (2, 2), 1, 1, False),
                (61, (2, 4), 0, 1, False), (61, (2, 59), 0, 1, False), (60, (2, 3), 0, 1, True),
                (60, (57, 2), 0, 1, True), (75, (3, 6), 2, 1, False), (100, (3, 3), 0, 1, False)]:
            scheme = Scheme((many,), steps, numbers)
            image = image_of(scheme, tuple(range(many)))
            if wide:
                self.assertEqual(mended_ring(scheme, image, often), tuple(range(many)), (many, steps, numbers, often))
            else:
                self.refused(NotWide, scheme, image, often)

    def test_all_conditions_at_once(self):
        rng = random.Random(125)
        for _ in range(150):
            many = rng.randint(10, 90)
            steps = tuple(rng.choice([1, 2, 3, 4, many - 1, many - 2, many - 3]) for _ in range(rng.randint(1, 3)))
            numbers = rng.randint(0, 2)
            lengths = [min(step, many - step) for step in steps]
            if numbers == 0 and gcd(many, *steps) > 1:
                continue
            often = rng.choice([1, 1, 2, 3])
            scheme = Scheme((many,), steps, numbers)
            image = image_of(scheme, tuple(range(many)))
            wide = many >= window_by_hand(lengths, often) and gcd(*lengths) == 1
            wide = wide and 2 * often < 2 * len(steps) + numbers and (numbers > 0 or 2 * often < sum(lengths))
            if wide:
                self.assertEqual(mended_ring(scheme, image, often), tuple(range(many)))
            else:
                self.refused(NotWide, scheme, image, often)

    def test_the_first_error_is_told(self):
        small = Scheme((9,), (1,), 0)
        sheet = Scheme((3, 3), (1, 3), 1)
        for scheme in (small, Scheme((40,), (1,), 1)):
            right = image_of(scheme, tuple(range(places(scheme))))
            for wrong in oddities() + far_integers() + [(), 0, 7, (1,)]:
                before = repr(wrong)
                self.refused(NoNumber, scheme, right, wrong)
                for thing in [wrong, right[1:], list(right), written_in(right, {(2, 0): places(scheme)})]:
                    for often in (1, wrong, deep(lambda inner: [inner])):
                        self.refused(NoImage, scheme, thing, often)
                        self.refused(NotRing, sheet, thing, often)
                self.assertEqual(repr(wrong), before)
        self.refused(NotWide, small, image_of(small, tuple(range(9))), 6)
        self.refused(NotRing, sheet, image_of(sheet, tuple(range(9))), 1)


if __name__ == "__main__":
    unittest.main()
