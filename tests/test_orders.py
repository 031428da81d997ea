"""Point 13: thirds, safe rows, and whether any row is safe."""

import random
import unittest
from itertools import permutations

from steplinks.edits import edited, seams, writes, written
from steplinks.errors import BadScheme, NoEdit, NoLaying, NoRow, NotRing, TooMany
from steplinks.layings import image_of
from steplinks.orders import any_row, is_third, safe_row, third
from steplinks.sheets import Scheme, places
from helping import deep, far_integers, images_by_hand, oddities, plain_by_hand, random_laying
from test_edits import NOT_RINGS

SCHEMES = [((3,), (1,), 0), ((4,), (1,), 0), ((4,), (1, 3), 0), ((4,), (1, 2), 0), ((5,), (1,), 0), ((5,), (2,), 0),
           ((5,), (1, 2), 0), ((5,), (1, 4), 0), ((6,), (1,), 0), ((6,), (1, 3), 0), ((6,), (5, 2), 0),
           ((6,), (1, 1), 0), ((6,), (2, 3), 0), ((7,), (1,), 0), ((7,), (1, 2), 0), ((7,), (3,), 0)]


def flat(image):
    return [entry for row in image for entry in row]


def apart(one, other):
    return sum(first != second for first, second in zip(one, other))


def few_edits(rng, scheme, laying):
    """A laying behind one to three drawn edits."""
    many = places(scheme)
    for _ in range(rng.randint(1, 3)):
        x, y, z = rng.sample(range(many), 3)
        try:
            laying = edited(scheme, laying, rng.choice([("exchange", x, y), ("turn", x, y), ("move", x, y, z)]))
        except NoEdit:
            pass
    return laying


class Tried:
    """All plain layings of a ring and their images; what is asked of two of them and a row, by all of these."""

    def __init__(self, triple):
        self.scheme = Scheme(*triple)
        self.pairs = [(laying, flat(right)) for laying, right in plain_by_hand(*triple)]
        self.kinds = len(triple[1])

    def behind(self, one, row):
        """The entries of the image of a laying behind each number of writes."""
        image = list(dict(self.pairs)[one])
        yield list(image)
        for record, kind, name in row:
            image[record * self.kinds + kind] = name
            yield list(image)

    def thirds(self, one, other, row):
        """All thirds of two plain layings."""
        found = []
        for many, image in enumerate(self.behind(one, row)):
            most = min(many, len(row) - many)
            found += [(many, laying) for laying, right in self.pairs
                      if laying not in (one, other) and apart(right, image) <= most]
        return found


class Thirds(unittest.TestCase):
    def compare(self, tried, one, other, row):
        """Check third, and is_third of all layings and numbers, against all layings gone through."""
        scheme = tried.scheme
        expected = tried.thirds(one, other, row)
        found = third(scheme, one, other, row)
        if not expected:
            self.assertIsNone(found, (one, other, row))
        else:
            self.assertIn(found, expected)
            self.assertEqual(found[0], expected[0][0])
        for many in range(len(row) + 1):
            for laying, _ in tried.pairs[:60]:
                self.assertEqual(is_third(scheme, one, other, row, (many, laying)), (many, laying) in expected)

    def test_all_layings(self):
        rng = random.Random(1313)
        for triple in SCHEMES:
            tried = Tried(triple)
            for _ in range(8):
                one = rng.choice(tried.pairs)[0]
                other = rng.choice([few_edits(rng, tried.scheme, one), rng.choice(tried.pairs)[0]])
                row = list(writes(tried.scheme, one, other))
                if rng.random() < 0.8:
                    rng.shuffle(row)
                self.compare(tried, one, other, tuple(row))

    def test_layings_that_are_not_plain(self):
        scheme = Scheme((6,), (1,), 0)
        tried = Tried(((6,), (1,), 0))
        rng = random.Random(1314)
        for _ in range(30):
            one, other = random_laying(rng, 6), random_laying(rng, 6)
            row = list(writes(scheme, one, other))
            rng.shuffle(row)
            first, second = [laying[laying.index(0):] + laying[:laying.index(0)] for laying in (one, other)]
            expected = tried.thirds(first, second, row)
            found = third(scheme, one, other, tuple(row))
            self.assertEqual(found is None, not expected)
            if found is not None:
                self.assertEqual((found in expected, found[0]), (True, expected[0][0]))
                self.assertTrue(is_third(scheme, one, other, tuple(row), found))

    def test_eight_places(self):
        rng = random.Random(1315)
        layings = [(0,) + rest for rest in permutations(range(1, 8))]
        for steps in [(1,), (3,), (1, 2), (7, 1), (1, 4)]:
            scheme = Scheme((8,), steps, 0)
            images = [flat(image) for image in images_by_hand((8,), steps, 0, layings)]
            for _ in range(4):
                other = few_edits(rng, scheme, layings[0])
                row = list(writes(scheme, layings[0], other))
                if not 0 < len(row) <= 9:
                    continue
                rng.shuffle(row)
                row = tuple(row)
                least = None
                for many in range(len(row) + 1):
                    image = flat(written(scheme, layings[0], row[:many]))
                    near = [laying for laying, right in zip(layings, images)
                            if apart(right, image) <= min(many, len(row) - many)]
                    if least is None and set(near) - {layings[0], other}:
                        least = many
                found = third(scheme, layings[0], other, row)
                self.assertEqual(None if found is None else found[0], least)
                if found is not None:
                    self.assertTrue(is_third(scheme, layings[0], other, row, found))

    def test_wide_rings(self):
        rng = random.Random(1316)
        for many, steps in [(60, (1,)), (40, (1, 39)), (60, (1, 2)), (50, (1, 25)), (31, (3,)), (200, (1, 1))]:
            scheme = Scheme((many,), steps, 0)
            one = tuple(range(many))
            for _ in range(6):
                other = few_edits(rng, scheme, one)
                row = list(writes(scheme, one, other))
                if len(row) > 9:
                    continue
                rng.shuffle(row)
                found = third(scheme, one, other, tuple(row))
                if found is not None:
                    self.assertTrue(is_third(scheme, one, other, tuple(row), found))
                safe = safe_row(scheme, one, other)
                if safe is not None:
                    self.assertEqual(sorted(safe), sorted(row))
                    self.assertIsNone(third(scheme, one, other, safe))
                if set(steps) <= {1, many - 1} and len(seams(scheme, one, other)) <= 3:
                    self.assertIsNone(found)
                    self.assertIsNotNone(safe)

    def test_four_seams(self):
        # A stretch turned about: with two of its four links written, the other two ways round are as near.
        scheme = Scheme((30,), (1,), 0)
        one = tuple(range(30))
        other = edited(scheme, one, ("exchange", 4, 20))
        self.assertEqual(len(seams(scheme, one, other)), 4)
        row = ((3, 0, 20), (19, 0, 4), (4, 0, 21), (20, 0, 5))
        found = third(scheme, one, other, row)
        self.assertEqual(found[0], 2)
        self.assertTrue(is_third(scheme, one, other, row, found))

    def test_what_is_no_third(self):
        scheme = Scheme((6,), (1,), 0)
        one = (0, 1, 2, 3, 4, 5)
        other = (0, 5, 4, 3, 2, 1)
        row = writes(scheme, one, other)
        many, laying = third(scheme, one, other, row)
        self.assertTrue(is_third(scheme, one, other, row, (many, laying)))
        wrongs = oddities() + far_integers() + [
            (), (many,), (many, laying, 0), [many, laying], (many, list(laying)), (laying, many), (many, one),
            (many, other), (many, laying[1:] + laying[:1]), (many, laying[:-1]), (many, laying[:-1] + (0,)),
            (0, laying), (len(row), laying), (len(row) + 1, laying), (-1, laying), (many - 1, laying), (None, laying),
            (10 ** 999, laying), (True, laying), (str(many), laying), (many, None), (many, deep(lambda inner: (inner,))),
            (deep(lambda inner: [inner]), laying), (many, image_of(scheme, laying)), {many: laying}]
        for wrong in wrongs:
            before = repr(wrong)
            self.assertIs(is_third(scheme, one, other, row, wrong), False, wrong)
            self.assertEqual(repr(wrong), before)


class Rows(unittest.TestCase):
    def has_third(self, tried, one, other, row):
        return len(tried.thirds(one, other, row)) > 0

    def test_all_rows_of_few_writes(self):
        rng = random.Random(1317)
        for triple in SCHEMES:
            tried = Tried(triple)
            found = 0
            for _ in range(40):
                one = rng.choice(tried.pairs)[0]
                other = few_edits(rng, tried.scheme, one)
                row = writes(tried.scheme, one, other)
                if len(row) > 5 or found == 4:
                    continue
                found += 1
                safe = [order for order in permutations(row) if not self.has_third(tried, one, other, order)]
                told = safe_row(tried.scheme, one, other)
                self.assertEqual(told is None, not safe)
                if told is not None:
                    self.assertIn(told, safe)
                self.assertIs(any_row(tried.scheme, one, other), len(safe) == len(list(permutations(row))))

    def barred(self, tried, one, other, row):
        """A function that tells whether behind some of the writes a third laying is as near as both."""
        rivals = [right for laying, right in tried.pairs if laying not in (one, other)]
        before = dict(tried.pairs)[one]

        def judge(chosen):
            image = list(before)
            for record, kind, name in chosen:
                image[record * tried.kinds + kind] = name
            most = min(len(chosen), len(row) - len(chosen))
            return any(apart(right, image) <= most for right in rivals)
        return judge

    def test_all_lots_of_writes(self):
        # A row is safe if none of the lots is barred that it comes by.
        rng = random.Random(1318)
        for triple in [((5,), (1,), 0), ((5,), (1, 2), 0), ((6,), (1, 3), 0), ((6,), (1,), 0), ((6,), (1, 5), 0),
                       ((7,), (1, 2), 0)]:
            tried = Tried(triple)
            for _ in range(2):
                one = rng.choice(tried.pairs)[0]
                other = few_edits(rng, tried.scheme, one)
                row = writes(tried.scheme, one, other)
                if len(row) > 8:
                    continue
                judge = self.barred(tried, one, other, row)
                come_by = {()}
                lots = {()}
                for _ in row:
                    lots = {tuple(sorted(lot + (write,))) for lot in lots for write in row if write not in lot}
                    come_by = {tuple(sorted(lot + (write,))) for lot in come_by for write in row if write not in lot}
                    come_by = {lot for lot in come_by if not judge(lot)}
                    if any(judge(lot) for lot in lots):
                        self.assertFalse(any_row(tried.scheme, one, other))
                told = safe_row(tried.scheme, one, other)
                self.assertEqual(told is None, not come_by)
                if told is not None:
                    self.assertEqual(tuple(sorted(told)), row)
                    self.assertFalse(any(judge(told[:many]) for many in range(len(row) + 1)))

    def test_some_rows_are_safe_and_some_are_not(self):
        for triple, edit in [(((5,), (1, 1), 0), ("exchange", 1, 3)), (((6,), (5, 1), 0), ("exchange", 2, 4)),
                             (((6,), (5, 5), 0), ("exchange", 0, 3)), (((7,), (1, 6), 0), ("exchange", 5, 2))]:
            tried = Tried(triple)
            one = tuple(range(triple[0][0]))
            other = edited(tried.scheme, one, edit)
            for first, second in [(one, other), (other, one)]:
                row = writes(tried.scheme, first, second)
                self.assertEqual(len(row), 8)
                self.assertIs(any_row(tried.scheme, first, second), False)
                judge = self.barred(tried, first, second, row)
                told = safe_row(tried.scheme, first, second)
                self.assertEqual(tuple(sorted(told)), row)
                self.assertFalse(any(judge(told[:many]) for many in range(len(row) + 1)))
                self.assertIsNone(third(tried.scheme, first, second, told))

    def test_each_pair_of_four_places(self):
        for triple in [((4,), (1, 2), 0), ((4,), (3, 2), 0), ((4,), (1, 3), 0), ((4,), (1, 1), 0), ((4,), (3,), 0)]:
            tried = Tried(triple)
            for one, _ in tried.pairs:
                for other, _ in tried.pairs:
                    row = writes(tried.scheme, one, other)
                    judge = self.barred(tried, one, other, row)
                    come_by, barred = {()}, False
                    for _ in row:
                        lots = {tuple(sorted(lot + (write,))) for lot in come_by for write in row if write not in lot}
                        come_by = {lot for lot in lots if not judge(lot)}
                        barred = barred or lots != come_by
                    told = safe_row(tried.scheme, one, other)
                    self.assertEqual(told is None, not come_by, (triple, one, other))
                    if told is not None:
                        self.assertEqual(tuple(sorted(told)), row)
                        self.assertFalse(any(judge(told[:many]) for many in range(len(row) + 1)))
                    self.assertIs(any_row(tried.scheme, one, other), not barred)

    def test_any_row_by_all_layings(self):
        # What a third can be for some row depends only on how many writes it sides with.
        rng = random.Random(1319)
        for triple in SCHEMES:
            tried = Tried(triple)
            for _ in range(10):
                one, other = rng.choice(tried.pairs)[0], rng.choice(tried.pairs)[0]
                first, second = [dict(tried.pairs)[laying] for laying in (one, other)]
                safe = True
                for laying, right in tried.pairs:
                    if laying in (one, other):
                        continue
                    sides = [(own == a, own == b) for own, a, b in zip(right, first, second) if a != b]
                    beside = sum(own != a for own, a, b in zip(right, first, second) if a == b)
                    like_one, like_other = sum(a for a, _ in sides), sum(b for _, b in sides)
                    for i in range(like_one + 1):
                        for j in range(like_other + 1):
                            for g in range(len(sides) - like_one - like_other + 1):
                                gainsaid = beside + len(sides) - like_one - like_other + i + like_other - j
                                if gainsaid <= min(i + j + g, len(sides) - i - j - g):
                                    safe = False
                self.assertIs(any_row(tried.scheme, one, other), safe)

    def test_the_fact(self):
        rng = random.Random(1320)
        for many in (4, 5, 6, 7, 8, 40, 400):
            for steps in [(1,), (many - 1,), (1, many - 1), (1, 1, many - 1)]:
                scheme = Scheme((many,), steps, 0)
                for _ in range(6):
                    one = random_laying(rng, many)
                    other = rng.choice([one, random_laying(rng, many), few_edits(rng, scheme, one),
                                        edited(scheme, one, ("move", one[0], one[1], one[3]))])
                    self.assertIs(any_row(scheme, one, other), len(seams(scheme, one, other)) <= 3)
        self.assertIs(any_row(Scheme((3,), (1, 2), 0), (0, 1, 2), (0, 2, 1)), True)

    def test_alike_layings(self):
        for scheme in [Scheme((5,), (1, 2), 0), Scheme((40,), (1, 39), 0)]:
            one = tuple(range(places(scheme)))
            other = one[3:] + one[:3]
            self.assertIsNone(third(scheme, one, other, ()))
            self.assertEqual(safe_row(scheme, one, other), ())
            self.assertIs(any_row(scheme, one, other), True)
            self.assertIs(is_third(scheme, one, other, (), (0, one)), False)
            self.assertIs(is_third(scheme, one, other, (), (0, (0, 2, 1) + one[3:])), False)

    def test_too_many(self):
        scheme = Scheme((7,), (1, 2), 0)
        one = (0, 1, 2, 3, 4, 5, 6)
        other = (0, 2, 4, 6, 1, 3, 5)
        self.assertGreater(len(writes(scheme, one, other)), 9)
        with self.assertRaises(TooMany) as caught:
            safe_row(scheme, one, other)
        self.assertEqual(caught.exception.most, 9)
        self.assertIn(any_row(scheme, one, other), (True, False))
        for scheme in [Scheme((8,), (3,), 0), Scheme((8,), (1, 7, 2), 0), Scheme((9,), (1, 3), 0)]:
            one = tuple(range(places(scheme)))
            for other in (one, one[::-1]):
                with self.assertRaises(TooMany) as caught:
                    any_row(scheme, one, other)
                self.assertEqual(caught.exception.most, 7)

    def test_nine_writes(self):
        for many in (5, 9, 12):
            scheme = Scheme((many,), (1, 1, many - 1), 0)
            one = tuple(range(many))
            other = edited(scheme, one, ("move", 1, 1, 3))
            self.assertEqual(len(writes(scheme, one, other)), 9)
            self.assertEqual(sorted(safe_row(scheme, one, other)), sorted(writes(scheme, one, other)))


class Refused(unittest.TestCase):
    def calls(self, scheme, one, other, row, thing=None):
        return [lambda: third(scheme, one, other, row), lambda: is_third(scheme, one, other, row, thing),
                lambda: safe_row(scheme, one, other), lambda: any_row(scheme, one, other)]

    def test_what_is_no_such_ring(self):
        for scheme in NOT_RINGS + [Scheme((2, 4), (1, 4), 0), Scheme((9,), (1, 3), 2)]:
            right = tuple(range(places(scheme)))
            for one in (right, None, deep(lambda inner: (inner,))):
                for call in self.calls(scheme, one, one, ()) + self.calls(scheme, one, None, None):
                    with self.assertRaises(NotRing):
                        call()

    def test_what_is_no_laying(self):
        for scheme in [Scheme((5,), (1, 2), 0), Scheme((9,), (2, 4), 0)]:
            right = tuple(range(places(scheme)))
            for wrong in oddities() + far_integers() + [(), right[1:], right + (9,), right[:-1] + (0,), list(right)]:
                before = repr(wrong)
                for row in ((), wrong):
                    for call in (self.calls(scheme, wrong, right, row) + self.calls(scheme, right, wrong, row)
                                 + self.calls(scheme, wrong, wrong, row)):
                        with self.assertRaises(NoLaying):
                            call()
                self.assertEqual(repr(wrong), before)

    def test_what_is_no_row(self):
        for scheme in [Scheme((6,), (1, 2), 0), Scheme((40,), (1,), 0)]:
            one = tuple(range(places(scheme)))
            other = edited(scheme, one, ("exchange", 1, 2))
            row = writes(scheme, one, other)
            wrongs = oddities() + far_integers() + [
                row[1:], row + row[:1], row[:1] + row[:-1], row + ((0, 0, 0),), list(row), ((0, 0, 0),) + row[1:],
                row[1:] + ((row[0][0], row[0][1], True),), row[1:] + (list(row[0]),), row[1:] + (row[0][:2],),
                writes(scheme, other, one), tuple(reversed(row[1:])), row[1:] + (None,), row[1:] + (row[0] + (0,),),
                row[1:] + ((False,) + row[0][1:],), row[1:] + ((row[0][0], False, row[0][2]),)]
            for wrong in wrongs:
                before = repr(wrong)
                for call in self.calls(scheme, one, other, wrong)[:2]:
                    with self.assertRaises(NoRow):
                        call()
                self.assertEqual(repr(wrong), before)
            self.assertIsNone(third(scheme, one, one, ()))
            with self.assertRaises(NoRow):
                third(scheme, one, one, row)
            with self.assertRaises(NoRow):
                third(scheme, one, other, ())


if __name__ == "__main__":
    unittest.main()
