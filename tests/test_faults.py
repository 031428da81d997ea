"""Point 10: walks that contradict themselves."""

import random
import unittest

from steplinks.errors import NoImage
from steplinks.faults import fault, is_fault
from steplinks.layings import gainsaid, image_of, laying_of, plain
from steplinks.sheets import Scheme, places
from helping import (deep, entries_of, far_integers, images_by_hand, oddities, plain_by_hand, random_laying,
                     random_scheme, table_by_hand, written_in)

SMALL = [((3,), (1,), 0), ((3,), (1, 2), 1), ((4,), (1,), 0), ((4,), (1, 2), 0), ((4,), (2,), 1), ((2, 2), (1, 2), 0),
         ((5,), (1, 4), 0), ((5,), (2, 2), 2), ((6,), (1, 3), 0), ((2, 3), (1, 3), 0), ((3, 2), (5,), 3),
         ((6,), (2, 4), 1), ((7,), (1, 2, 3), 0), ((2, 4), (1, 4), 0), ((9,), (3, 1), 0)]


def is_fault_by_hand(moduli, steps, image, walk):
    """Whether a walk of the right form contradicts itself, by the document's words."""
    sums = table_by_hand(moduli)
    record, row = walk
    here, total = record, 0
    for own, kind, ahead in row:
        named = image[own][kind]
        if kind >= len(steps) or named is None or here != (own if ahead else named):
            return False
        if ahead:
            here, total = named, sums[total, steps[kind]]
        else:
            here, total = own, [place for place in range(len(image)) if sums[place, steps[kind]] == total][0]
    return here == record and total != 0 or here != record and total == 0


def fewest_steps(moduli, steps, image):
    """The number of steps of the shortest fault, None if there is none: by all pairs of a record and a sum."""
    sums = table_by_hand(moduli)
    ways = []
    for record, row in enumerate(image):
        for kind, step in enumerate(steps):
            if row[kind] is not None:
                for place in range(len(image)):
                    ways.append(((record, place), (row[kind], sums[place, step])))
    ahead = {}
    for start, end in ways:
        ahead.setdefault(start, []).append(end)
        ahead.setdefault(end, []).append(start)
    found = []
    for first in range(len(image)):
        depths = {(first, 0): 0}
        edge = [(first, 0)]
        for state in edge:
            for other in ahead.get(state, []):
                if other not in depths:
                    depths[other] = depths[state] + 1
                    edge.append(other)
        found += [depth for (record, place), depth in depths.items() if depth > 0 and (record == first) != (place == 0)]
    return min(found, default=None)


class Faults(unittest.TestCase):
    def check(self, scheme, image):
        """Check what is told of an image; give it back."""
        before = repr(image)
        found = fault(scheme, image)
        fewest = fewest_steps(scheme.moduli, scheme.steps, image)
        if fewest is None:
            self.assertIsNone(found)
        else:
            self.assertIs(type(found), tuple)
            self.assertEqual([type(part) for part in found], [int, tuple])
            for step in found[1]:
                self.assertIs(type(step), tuple)
                self.assertEqual([type(part) for part in step], [int, int, bool])
            self.assertEqual(len(found[1]), fewest, (scheme.moduli, scheme.steps, image, found))
            self.assertTrue(is_fault_by_hand(scheme.moduli, scheme.steps, image, found))
            self.assertIs(is_fault(scheme, image, found), True)
        self.assertEqual(fault(scheme, image), found)
        self.assertEqual(repr(image), before)
        return found

    def test_by_eye(self):
        ring = Scheme((4,), (1,), 0)
        self.assertIsNone(fault(ring, ((1,), (2,), (3,), (0,))))
        # Record 2 names itself.
        self.assertEqual(len(self.check(ring, ((1,), (2,), (2,), (0,)))[1]), 1)
        # Two records name the same one.
        self.assertEqual(len(self.check(ring, ((1,), (3,), (1,), (None,)))[1]), 2)
        # Each names the other, by steps that do not come back; or they do.
        self.assertEqual(len(self.check(ring, ((1,), (0,), (None,), (None,)))[1]), 2)
        self.assertIsNone(fault(Scheme((4,), (1, 2), 0), ((None, 1), (None, 0), (None, None), (None, None))))
        # A ring of three and one of its own.
        self.assertEqual(len(self.check(ring, ((1,), (2,), (0,), (None,)))[1]), 3)
        self.assertIsNone(fault(ring, ((1,), (2,), (3,), (None,))))

    def test_right_images(self):
        for triple in SMALL[:12]:
            for _, image in plain_by_hand(*triple)[::7]:
                self.assertIsNone(fault(Scheme(*triple), image))
        rng = random.Random(1)
        for triple in [((60,), (1, 2, 30), 1), ((7, 7), (1, 7), 0), ((400,), (1, 399, 7), 0), ((4, 10, 10), (1, 10, 100), 0)]:
            scheme = Scheme(*triple)
            right = image_of(scheme, random_laying(rng, places(scheme)))
            self.assertIsNone(fault(scheme, right))
            hidden = {entry: None for entry in rng.sample(entries_of(right), len(right))}
            self.assertIsNone(fault(scheme, written_in(right, hidden)))

    def test_images_of_none(self):
        for triple in SMALL:
            scheme = Scheme(*triple)
            image = ((None,) * (len(scheme.steps) + scheme.numbers),) * places(scheme)
            self.assertIsNone(fault(scheme, image))
            self.assertIs(is_fault(scheme, image, (0, ((0, 0, True),))), False)

    def test_two_rings_apart(self):
        for many, first in [(6, 3), (10, 2), (11, 5), (24, 11)]:
            for steps in [(1,), (many - 1,), (1, many - 1)]:
                scheme = Scheme((many,), steps, 0)
                rows = []
                for record in range(many):
                    low, high = (0, first) if record < first else (first, many)
                    turns = [1 if step == 1 else -1 for step in steps]
                    rows.append(tuple(low + (record - low + turn) % (high - low) for turn in turns))
                found = self.check(scheme, tuple(rows))
                self.assertEqual(len(found[1]), min(first, many - first))

    def test_sheets_joined_wrong(self):
        # Where the rows come round, each goes on three places further on.
        scheme = Scheme((6, 7), (1, 7), 0)
        rows = [(row * 7 + (at + 1) % 7, (row + 1) % 6 * 7 + (at + 3 * (row == 5)) % 7)
                for row in range(6) for at in range(7)]
        self.assertEqual(len(self.check(scheme, tuple(rows))[1]), 6)

    def test_small_schemes(self):
        rng = random.Random(10)
        for triple in SMALL:
            scheme = Scheme(*triple)
            for _ in range(40):
                right = image_of(scheme, random_laying(rng, places(scheme)))
                entries = entries_of(right)
                rng.shuffle(entries)
                changes = {entry: None for entry in entries[:rng.choice([0, 1, 3, len(entries) // 2])]}
                for entry in entries[len(changes):][:rng.choice([0, 1, 1, 2, 4])]:
                    changes[entry] = rng.randrange(places(scheme))
                if rng.random() < 0.4:
                    (one, kind), other = rng.choice(entries), rng.randrange(places(scheme))
                    changes[one, kind], changes[other, kind] = right[other][kind], right[one][kind]
                self.check(scheme, written_in(right, changes))
            for _ in range(10):
                self.check(scheme, tuple(tuple(rng.choice([None] * 4 + list(range(places(scheme)))) for _ in row)
                                         for row in right))

    def test_random_schemes(self):
        rng = random.Random(101)
        for moduli in [(12,), (3, 4), (2, 2, 3), (15,)]:
            for kinds in [1, 2, 3, 6]:
                scheme = random_scheme(rng, moduli, kinds, 1)
                for many in [1, 2, 3]:
                    right = image_of(scheme, random_laying(rng, places(scheme)))
                    entries = rng.sample(entries_of(right), 3 * many)
                    changes = {entry: None for entry in entries[many:]}
                    changes.update({entry: rng.randrange(places(scheme)) for entry in entries[:many]})
                    self.check(scheme, written_in(right, changes))

    def test_numbers_are_no_steps(self):
        scheme = Scheme((5,), (1,), 2)
        right = image_of(scheme, (0, 1, 2, 3, 4))
        image = written_in(right, {(0, 1): 3, (1, 1): 3, (2, 2): 0, (3, 2): None})
        self.assertIsNone(fault(scheme, image))
        self.assertIsNone(laying_of(scheme, image))

    def test_each_right_image_gainsays_an_entry(self):
        rng = random.Random(11)
        for triple in SMALL[:12]:
            scheme = Scheme(*triple)
            pairs = plain_by_hand(*triple)
            for _ in range(6):
                image = written_in(rng.choice(pairs)[1], {(0, 0): rng.randrange(places(scheme)), (1, 0): None})
                found = fault(scheme, image)
                if found is not None:
                    walked = {(record, kind) for record, kind, _ in found[1]}
                    for laying, _ in pairs[::5]:
                        self.assertTrue(walked & set(gainsaid(scheme, laying, image)))

    def test_right_exactly_if_there_is_no_fault(self):
        for triple in [((3,), (1,), 0), ((3,), (2,), 0), ((4,), (1,), 0), ((4,), (3,), 0)]:
            scheme = Scheme(*triple)
            many = places(scheme)
            for number in range(many ** many):
                image = tuple((number // many ** record % many,) for record in range(many))
                self.assertEqual(fault(scheme, image) is None, laying_of(scheme, image) is not None)
        rng = random.Random(12)
        scheme = Scheme((2, 3), (1, 3), 0)
        for _ in range(200):
            right = image_of(scheme, plain(scheme, random_laying(rng, 6)))
            image = written_in(right, {entry: rng.randrange(6) for entry in rng.sample(entries_of(right), 2)})
            self.assertEqual(fault(scheme, image) is None, laying_of(scheme, image) is not None)

    def test_great_sheets(self):
        rng = random.Random(13)
        for triple in [((400,), (1, 2, 3, 4, 5, 6), 3), ((20, 20), (1, 20), 0), ((400,), (1,), 0)]:
            scheme = Scheme(*triple)
            right = image_of(scheme, random_laying(rng, 400))
            changes = {entry: right[entry[0] - 1][entry[1]] for entry in rng.sample(entries_of(right), 3)}
            image = written_in(right, changes)
            found = fault(scheme, image)
            self.assertLessEqual(len(found[1]), 2)
            self.assertIs(is_fault(scheme, image, found), True)


class IsFault(unittest.TestCase):
    scheme = Scheme((6,), (1, 3), 1)
    # Records 0, 1, 2 in a ring of their own; 5 can't be read.
    image = ((1, 3, 0), (2, 4, 1), (0, 5, 2), (4, 0, 3), (5, 1, 4), (None, None, None))
    walk = (0, ((0, 0, True), (1, 0, True), (2, 0, True)))

    def test_walks_by_eye(self):
        for walk in [self.walk, (1, ((1, 0, True), (2, 0, True), (0, 0, True))),
                     (0, ((2, 0, False), (1, 0, False), (0, 0, False))),
                     (3, ((0, 1, False), (0, 0, True), (1, 0, True), (2, 0, True), (3, 1, False))),
                     (2, ((2, 0, True), (3, 1, False), (3, 0, True), (1, 1, False), (1, 0, True)))]:
            self.assertIs(is_fault(self.scheme, self.image, walk), True, walk)
        # Ahead to 3, and to 4, back to 1, back to 0: nothing wrong.
        for walk in [(0, ((0, 1, True), (3, 0, True), (1, 1, False), (0, 0, False))),
                     (0, ((0, 0, True), (0, 0, False))), (0, ((0, 0, True),)), (0, ((0, 1, True), (3, 1, True)))]:
            self.assertIs(is_fault(self.scheme, self.image, walk), False, walk)

    def test_all_short_walks(self):
        rng = random.Random(14)
        for triple in [((4,), (1, 2), 0), ((2, 2), (1, 2), 1)]:
            scheme = Scheme(*triple)
            for _ in range(3):
                image = tuple(tuple(rng.choice([None, 0, 1, 2, 3]) for _ in range(2 + triple[2])) for _ in range(4))
                steps = [(record, kind, ahead) for record in range(4) for kind in range(2) for ahead in (True, False)]
                rows = [(one,) for one in steps] + [(one, other) for one in steps for other in steps]
                rows += [tuple(rng.choice(steps) for _ in range(3)) for _ in range(300)]
                for record in range(4):
                    for row in rows:
                        expected = is_fault_by_hand(scheme.moduli, scheme.steps, image, (record, row))
                        self.assertIs(is_fault(scheme, image, (record, row)), expected)

    def test_changed_walks(self):
        rng = random.Random(15)
        for triple in SMALL:
            scheme = Scheme(*triple)
            for _ in range(8):
                right = image_of(scheme, random_laying(rng, places(scheme)))
                entries = rng.sample(entries_of(right), 3)
                image = written_in(right, {entries[0]: None, entries[1]: rng.randrange(places(scheme)),
                                           entries[2]: rng.randrange(places(scheme))})
                found = fault(scheme, image)
                if found is None:
                    continue
                for walk in self.changed(found, image):
                    expected = is_fault_by_hand(scheme.moduli, scheme.steps, image, walk)
                    self.assertIs(is_fault(scheme, image, walk), expected, (image, walk))

    def changed(self, walk, image):
        """Walks with a step turned about, left out, put twice, led on; begun elsewhere; walked back; walked twice."""
        record, row = walk
        for at, (own, kind, ahead) in enumerate(row):
            yield (record, row[:at] + ((own, kind, not ahead),) + row[at + 1:])
            if len(row) > 1:
                yield (record, row[:at] + row[at + 1:])
            yield (record, row[:at + 1] + row[at:])
            yield (record, row[:at] + ((own, kind, not ahead), (own, kind, ahead)) + row[at:])
            for other in range(len(image[0])):
                yield (record, row[:at] + ((own, other, ahead),) + row[at + 1:])
        for own in range(len(image)):
            yield (own, row)
            for kind in range(len(image[0])):
                for ahead in (True, False):
                    yield (record, row + ((own, kind, ahead),))
        yield (record, tuple((own, kind, not ahead) for own, kind, ahead in reversed(row)))
        yield (record, row + row)
        yield (record, row * 100)

    def test_walks_once_round(self):
        # Three times round the ring of three is nine, twice is six, which is 0.
        record, row = self.walk
        for times, expected in [(1, True), (2, False), (3, True), (4, False), (5001, True), (10000, False)]:
            self.assertIs(is_fault(self.scheme, self.image, (record, row * times)), expected)

    def test_things_that_are_no_walks(self):
        record, row = self.walk
        first, rest = row[0], row[1:]
        steps = [(0, 0, 1), (0, 0, 0), (0, 0, None), (0, 0, "True"), (0, False, True), (False, 0, True), (0, 2, True),
                 (0, 3, True), (0, -1, True), (0, -2, True), (-6, 0, True), (6, 0, True), (-1, 0, True), (5, 0, True),
                 (5, 1, False), (0, 0), (0,), (), (0, 0, True, True), [0, 0, True], {0: 0}, None, 0, True, "00T",
                 (None, 0, True), (0, None, True), ("0", 0, True), (0, "0", True), ((0,), 0, True), (0, 0, (True,)),
                 (0, 0, [True]), (10 ** 999, 0, True), (0, 10 ** 999, True), self.scheme]
        things = [(record, (step,) + rest) for step in steps] + [(record, row + (step,)) for step in steps]
        things += [(record, (step,)) for step in steps]
        things += [(record, ()), (record, list(row)), (record, None), (record, first), (record, {0: first}), (record,),
                   (), row, (record, row, True), [record, row], {record: row}, (row, record), (record, row, ()),
                   (False, row), (None, row), ("0", row), ((record,), row), ([record], row), (6, row), (-6, row),
                   (10 ** 999, row), (record, (row,)), ((record, row),), (record, "abc"), (record, (None,) * 30000),
                   (record, row * 9999 + (None,))]
        for thing in things + oddities() + far_integers():
            before = repr(thing)
            self.assertIs(is_fault(self.scheme, self.image, thing), False)
            self.assertEqual(repr(thing), before)
        # With a flag for record 1, too.
        self.assertIs(is_fault(self.scheme, self.image, (1, ((True, 0, True), (2, 0, True), (0, 0, True)))), False)
        self.assertIs(is_fault(self.scheme, self.image, (True, ((1, 0, True), (2, 0, True), (0, 0, True)))), False)

    def test_deep_things(self):
        record, row = self.walk
        for make in [lambda inner: (inner,), lambda inner: [inner], lambda inner: {"a": inner},
                     lambda inner: (0, (inner,))]:
            wrong = deep(make, leaf=row, levels=14)
            for thing in [wrong, (wrong, row), (record, wrong), (record, (wrong,)), (record, ((wrong, 0, True),)),
                          (record, ((0, wrong, True),)), (record, ((0, 0, wrong),)), (record, row + (wrong,))]:
                self.assertIs(is_fault(self.scheme, self.image, thing), False)

    def test_no_image(self):
        right = self.image
        wrong = [right[1:], right + right[:1], list(right), (right[0][1:],) + right[1:],
                 (right[0] + (0,),) + right[1:], (list(right[0]),) + right[1:], (), dict(enumerate(right))]
        wrong += [written_in(right, {(0, 0): entry}) for entry in [6, -1, True, "1", (1,), [1], 10 ** 999]]
        for image in wrong + oddities() + far_integers():
            before = repr(image)
            with self.assertRaises(NoImage):
                fault(self.scheme, image)
            for thing in [self.walk, None, deep(lambda inner: [inner])]:
                with self.assertRaises(NoImage):
                    is_fault(self.scheme, image, thing)
            self.assertEqual(repr(image), before)

    def test_sums_by_hand(self):
        images = images_by_hand((2, 3), (1, 3), 0, [(0, 1, 2, 3, 4, 5)])
        scheme = Scheme((2, 3), (1, 3), 0)
        # Three times one step and twice the other come back; to go ahead once more does not.
        loop = ((0, 0, True), (1, 0, True), (2, 0, True), (0, 1, True), (3, 1, True))
        self.assertIs(is_fault(scheme, images[0], (0, loop)), False)
        self.assertIs(is_fault(scheme, written_in(images[0], {(3, 1): 1}), (0, loop)), True)
        back = ((0, 0, True), (1, 0, True))
        self.assertIs(is_fault(scheme, written_in(images[0], {(1, 0): 0}), (0, back)), True)
        back = ((0, 1, True), (3, 1, True))
        self.assertIs(is_fault(scheme, images[0], (0, back)), False)


if __name__ == "__main__":
    unittest.main()
