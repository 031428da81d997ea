"""Point 7: layings and images."""

import copy
import unittest

from steplinks.errors import NoImage, NoLaying
from steplinks.layings import gainsaid, image_of, is_image, laying_of, plain, unlike
from steplinks.sheets import Scheme
from helping import far_integers, image_by_hand, layings_by_image, oddities

TRIPLES = [((3,), (1,), 0), ((4,), (1, 3), 0), ((5,), (2,), 0), ((5,), (1, 4, 2), 0), ((2, 2), (1, 2), 0),
           ((2, 2), (3, 1, 1), 0), ((3,), (2,), 1), ((4,), (2,), 1), ((2, 2), (1, 1), 2), ((5,), (3, 2), 3)]
SIX = [((6,), (1,), 0), ((6,), (2, 3), 0), ((2, 3), (4,), 0), ((3, 2), (1, 2), 0), ((2, 3), (1,), 1)]


def wrong_layings(many):
    """Things that are no layings of so many records."""
    right = tuple(range(many))
    return oddities() + far_integers() + [
        (), right[:-1], right + (many,), right + (0,), right + right, right[:-1] + (0,), right[:-1] + (many,),
        right[:-1] + (-1,), (True,) + right[1:], (False,) + right[1:], (right[0], True) + right[2:],
        (None,) + right[1:], right[:-1] + (None,), right[:-1] + (str(many - 1),), right[:-1] + ((many - 1,),),
        right[:-1] + ([many - 1],), right[:-1] + ({many - 1: 0},), right[:-1] + (10 ** 999,), list(right),
        {record: record for record in right}, (0,) * many, (right,), "".join(str(record) for record in right)]


def wrong_images(many, kinds):
    """Things that are no images of so many records with so many entries each."""
    right = ((0,) * kinds,) * many
    head = right[:-1]
    rows = [(), (0,) * (kinds - 1), (0,) * (kinds + 1), [0] * kinds, (many,) + (0,) * (kinds - 1),
            (0,) * (kinds - 1) + (many,), (0,) * (kinds - 1) + (-1,), (True,) + (0,) * (kinds - 1),
            (0,) * (kinds - 1) + (False,), (0,) * (kinds - 1) + ("0",), (0,) * (kinds - 1) + ("?",),
            (0,) * (kinds - 1) + ((),), (0,) * (kinds - 1) + ((0,),), (0,) * (kinds - 1) + ([],),
            (0,) * (kinds - 1) + ({},), (0,) * (kinds - 1) + (10 ** 999,), None, 0, "0" * kinds, {0: 0}]
    return oddities() + far_integers() + [
        (), head, right + ((0,) * kinds,), list(right), dict(enumerate(right)), (right,), (0,) * many,
        (None,) * many, (None,) + right[1:]] + [head + (row,) for row in rows] + [(row,) + right[1:] for row in rows]


class Images(unittest.TestCase):
    def test_ring_by_eye(self):
        scheme = Scheme((4,), (1, 3), 0)
        self.assertEqual(image_of(scheme, (2, 0, 3, 1)), ((3, 2), (2, 3), (0, 1), (1, 0)))

    def test_numbers_by_eye(self):
        scheme = Scheme((4,), (2,), 2)
        self.assertEqual(image_of(scheme, (2, 0, 3, 1)), ((1, 1, 1), (0, 3, 3), (3, 0, 0), (2, 2, 2)))

    def test_sheet_by_eye(self):
        # The sheet's rows are 5 3 1 and 0 2 4: step 1 goes on within a row, step 3 to the other row.
        scheme = Scheme((2, 3), (1, 3), 1)
        self.assertEqual(image_of(scheme, (5, 3, 1, 0, 2, 4)),
                         ((2, 5, 3), (5, 4, 2), (4, 3, 4), (1, 2, 1), (0, 1, 5), (3, 0, 0)))

    def test_all_layings_by_hand(self):
        for triple in TRIPLES + SIX:
            scheme = Scheme(*triple)
            for image, layings in layings_by_image(*triple).items():
                for laying in layings:
                    self.assertEqual(image_of(scheme, laying), image)

    def test_three_moduli_and_many_places(self):
        for moduli, steps, numbers in [((2, 3, 4), (1, 5, 23, 12), 1), ((3, 3, 3), (1, 3, 9), 0), ((60,), (7, 53), 2)]:
            many = 1
            for modulus in moduli:
                many *= modulus
            laying = tuple(reversed(range(0, many, 2))) + tuple(range(1, many, 2))
            self.assertEqual(image_of(Scheme(moduli, steps, numbers), laying),
                             image_by_hand(moduli, steps, numbers, laying))

    def test_four_hundred_places(self):
        laying = tuple(range(400))
        image = image_of(Scheme((400,), (1, 399), 1), laying)
        self.assertEqual(image, tuple(((k + 1) % 400, (k - 1) % 400, k) for k in range(400)))

    def test_kinds_of_values(self):
        image = image_of(Scheme((4,), (1,), 1), (1, 2, 3, 0))
        self.assertEqual({type(image)} | {type(row) for row in image}, {tuple})
        self.assertEqual({type(entry) for row in image for entry in row}, {int})

    def test_no_laying(self):
        for triple in TRIPLES:
            scheme = Scheme(*triple)
            many = len(layings_by_image(*triple).popitem()[0])
            for laying in wrong_layings(many):
                before = copy.copy(laying)
                for call in (image_of, plain):
                    with self.assertRaises(NoLaying):
                        call(scheme, laying)
                if isinstance(laying, (list, tuple, dict)):
                    self.assertEqual(laying, before)


class Plain(unittest.TestCase):
    def test_by_eye(self):
        self.assertEqual(plain(Scheme((5,), (1,), 0), (3, 1, 4, 0, 2)), (0, 2, 3, 1, 4))
        self.assertEqual(plain(Scheme((5,), (1,), 0), (0, 2, 3, 1, 4)), (0, 2, 3, 1, 4))
        self.assertEqual(plain(Scheme((5,), (1,), 1), (3, 1, 4, 0, 2)), (3, 1, 4, 0, 2))
        self.assertEqual(plain(Scheme((2, 3), (1, 3), 0), (5, 3, 1, 4, 0, 2)), (0, 2, 4, 3, 1, 5))

    def test_the_least_of_those_that_are_alike(self):
        for triple in TRIPLES + SIX:
            scheme = Scheme(*triple)
            for layings in layings_by_image(*triple).values():
                for laying in layings:
                    self.assertEqual(plain(scheme, laying), layings[0])
                    self.assertIs(type(plain(scheme, laying)), tuple)

    def test_with_numbers_each_is_plain(self):
        for triple in TRIPLES:
            if triple[2] > 0:
                for layings in layings_by_image(*triple).values():
                    self.assertEqual(len(layings), 1)


class IsImage(unittest.TestCase):
    def test_right_images_and_others_of_the_form(self):
        scheme = Scheme((3,), (1,), 1)
        for image in [((1, 0), (2, 1), (0, 2)), ((0, 0), (0, 0), (0, 0)), ((2, 2), (2, 2), (2, 2)),
                      ((None, 0), (2, None), (None, None)), ((None, None),) * 3]:
            self.assertIs(is_image(scheme, image), True)

    def test_all_right_images(self):
        for triple in TRIPLES:
            scheme = Scheme(*triple)
            for image in layings_by_image(*triple):
                self.assertIs(is_image(scheme, image), True)

    def test_bounds_of_entries(self):
        scheme = Scheme((2, 3), (1, 3), 1)
        for entry, found in [(0, True), (5, True), (6, False), (-1, False), (None, True), (True, False), ("0", False)]:
            for kind in range(3):
                for record in range(6):
                    rows = [[0, 0, 0] for _ in range(6)]
                    rows[record][kind] = entry
                    self.assertIs(is_image(scheme, tuple(map(tuple, rows))), found)

    def test_wrong_things(self):
        for triple, many, kinds in [(((3,), (1,), 0), 3, 1), (((4,), (1, 2), 0), 4, 2), (((2, 3), (1, 3), 3), 6, 5)]:
            for thing in wrong_images(many, kinds):
                before = copy.copy(thing)
                self.assertIs(is_image(Scheme(*triple), thing), False)
                if isinstance(thing, (list, tuple, dict)):
                    self.assertEqual(thing, before)

    def test_images_of_other_schemes(self):
        one, other = Scheme((4,), (1, 2), 0), Scheme((4,), (1, 2), 1)
        self.assertIs(is_image(one, image_of(other, (0, 1, 2, 3))), False)
        self.assertIs(is_image(other, image_of(one, (0, 1, 2, 3))), False)
        self.assertIs(is_image(one, image_of(Scheme((5,), (1, 2), 0), (0, 1, 2, 3, 4))), False)


class LayingOf(unittest.TestCase):
    def test_all_right_images(self):
        for triple in TRIPLES + SIX:
            scheme = Scheme(*triple)
            for image, layings in layings_by_image(*triple).items():
                self.assertEqual(laying_of(scheme, image), layings[0])

    def test_all_images_of_three_records(self):
        entries = (None, 0, 1, 2)
        for triple in [((3,), (1,), 0), ((3,), (2,), 0)]:
            right = layings_by_image(*triple)
            for image in [((a,), (b,), (c,)) for a in entries for b in entries for c in entries]:
                self.assertEqual(laying_of(Scheme(*triple), image), right.get(image, [None])[0])
        right = layings_by_image((3,), (1,), 1)
        rows = [(a, b) for a in entries for b in entries]
        for image in [(a, b, c) for a in rows for b in rows for c in rows]:
            self.assertEqual(laying_of(Scheme((3,), (1,), 1), image), right.get(image, [None])[0])

    def test_each_single_change_of_a_right_image(self):
        for triple in TRIPLES + SIX:
            scheme = Scheme(*triple)
            right = layings_by_image(*triple)
            image = sorted(right)[len(right) // 2]
            for record, row in enumerate(image):
                for kind in range(len(row)):
                    for entry in [None, *range(len(image))]:
                        rows = [list(other) for other in image]
                        rows[record][kind] = entry
                        changed = tuple(map(tuple, rows))
                        self.assertEqual(laying_of(scheme, changed), right.get(changed, [None])[0])

    def test_links_that_fall_apart(self):
        self.assertIsNone(laying_of(Scheme((4,), (1,), 0), ((1,), (0,), (3,), (2,))))
        self.assertIsNone(laying_of(Scheme((4,), (1,), 0), ((0,), (1,), (2,), (3,))))
        self.assertIsNone(laying_of(Scheme((4,), (1,), 0), ((1,), (2,), (1,), (0,))))
        self.assertIsNone(laying_of(Scheme((4,), (1, 2), 0), ((1, 3), (2, 2), (3, 0), (0, 1))))

    def test_links_alone_where_numbers_are_wanted(self):
        scheme = Scheme((4,), (1,), 2)
        self.assertEqual(laying_of(scheme, ((1, 0, 0), (2, 1, 1), (3, 2, 2), (0, 3, 3))), (0, 1, 2, 3))
        self.assertEqual(laying_of(scheme, ((1, 1, 1), (2, 2, 2), (3, 3, 3), (0, 0, 0))), (3, 0, 1, 2))
        self.assertIsNone(laying_of(scheme, ((1, 0, 0), (2, 1, 1), (3, 2, 2), (0, 3, 2))))
        self.assertIsNone(laying_of(scheme, ((1, 0, 0), (2, 1, 1), (3, 2, 2), (0, 2, 3))))
        self.assertIsNone(laying_of(scheme, ((1, 0, 0), (2, 0, 0), (3, 2, 2), (0, 3, 3))))
        self.assertIsNone(laying_of(scheme, ((1, 0, 1), (2, 1, 2), (3, 2, 3), (0, 3, 0))))

    def test_many_places(self):
        for scheme in [Scheme((400,), (7, 393), 0), Scheme((20, 20), (20, 1), 0), Scheme((4, 10, 10), (2,), 1)]:
            laying = (0,) + tuple(range(399, 0, -1))
            image = image_of(scheme, laying)
            self.assertEqual(laying_of(scheme, image), laying)
            self.assertIsNone(laying_of(scheme, image[:-1] + ((None,) * len(image[0]),)))

    def test_no_image(self):
        for triple, many, kinds in [(((3,), (1,), 0), 3, 1), (((4,), (1, 2), 0), 4, 2), (((2, 3), (1, 3), 3), 6, 5)]:
            for thing in wrong_images(many, kinds):
                before = copy.copy(thing)
                with self.assertRaises(NoImage):
                    laying_of(Scheme(*triple), thing)
                if isinstance(thing, (list, tuple, dict)):
                    self.assertEqual(thing, before)


class Gainsaid(unittest.TestCase):
    def test_by_eye(self):
        scheme = Scheme((4,), (1, 2), 1)
        laying = (0, 1, 2, 3)
        image = ((1, 2, 0), (2, 3, 1), (3, 0, 2), (0, 1, 3))
        self.assertEqual(gainsaid(scheme, laying, image), [])
        image = ((1, 0, 0), (None, 3, 1), (0, 0, None), (0, None, 0))
        self.assertEqual(gainsaid(scheme, laying, image), [(0, 1), (2, 0), (3, 2)])

    def test_none_is_not_gainsaid(self):
        scheme = Scheme((2, 3), (1, 3), 2)
        self.assertEqual(gainsaid(scheme, (5, 4, 3, 2, 1, 0), ((None,) * 4,) * 6), [])

    def test_all_entries_in_ascending_order(self):
        scheme = Scheme((12,), (1, 2), 0)
        laying = tuple(range(12))
        image = tuple((record, record) for record in range(12))
        self.assertEqual(gainsaid(scheme, laying, image), [(record, kind) for record in range(12) for kind in (0, 1)])

    def test_entry_by_entry(self):
        for triple in TRIPLES:
            scheme = Scheme(*triple)
            right = layings_by_image(*triple)
            images = sorted(right)
            for at in range(0, len(images), 5):
                rows = [list(row) for row in images[at]]
                rows[at % len(rows)][0] = None
                rows[(at + 1) % len(rows)][-1] = at % len(rows)
                image = tuple(map(tuple, rows))
                for own in images[:20]:
                    expected = [(record, kind) for record in range(len(rows)) for kind in range(len(rows[0]))
                                if image[record][kind] is not None and image[record][kind] != own[record][kind]]
                    self.assertEqual(gainsaid(scheme, right[own][-1], image), expected)

    def test_a_new_list_of_pairs(self):
        scheme = Scheme((3,), (1,), 0)
        image = ((2,), (0,), (1,))
        first = gainsaid(scheme, (0, 1, 2), image)
        self.assertEqual([type(first)] + [type(pair) for pair in first], [list] + [tuple] * 3)
        first.append("more")
        self.assertEqual(gainsaid(scheme, (0, 1, 2), image), [(0, 0), (1, 0), (2, 0)])
        empty = gainsaid(scheme, (0, 2, 1), image)
        empty.append("more")
        self.assertEqual(gainsaid(scheme, (0, 2, 1), image), [])

    def test_wrong_arguments(self):
        scheme = Scheme((4,), (1, 2), 0)
        laying = (0, 1, 2, 3)
        image = image_of(scheme, laying)
        for wrong in wrong_layings(4):
            for other in [image, None, (), [image], image[:-1]]:
                with self.assertRaises(NoLaying):
                    gainsaid(scheme, wrong, other)
        for wrong in wrong_images(4, 2) + [laying]:
            with self.assertRaises(NoImage):
                gainsaid(scheme, laying, wrong)


class Unlike(unittest.TestCase):
    def test_by_eye(self):
        scheme = Scheme((4,), (1, 3), 1)
        self.assertEqual(unlike(scheme, (0, 1, 2, 3), (0, 1, 2, 3)), [])
        self.assertEqual(unlike(scheme, (0, 1, 2, 3), (1, 2, 3, 0)), [(0, 2), (1, 2), (2, 2), (3, 2)])
        self.assertEqual(unlike(scheme, (0, 1, 2, 3), (0, 2, 1, 3)),
                         [(0, 0), (1, 0), (1, 1), (1, 2), (2, 0), (2, 1), (2, 2), (3, 1)])

    def test_layings_that_are_alike(self):
        for triple in TRIPLES + SIX:
            scheme = Scheme(*triple)
            for layings in list(layings_by_image(*triple).values())[:9]:
                for other in layings:
                    self.assertEqual(unlike(scheme, layings[0], other), [])
                    self.assertEqual(unlike(scheme, other, layings[-1]), [])

    def test_all_pairs_by_hand(self):
        for triple in [((4,), (1, 3), 0), ((2, 2), (1, 2), 0), ((4,), (2,), 1), ((3,), (1,), 2)]:
            scheme = Scheme(*triple)
            pairs = [(image, laying) for image, layings in layings_by_image(*triple).items() for laying in layings]
            for image, laying in pairs:
                for second, other in pairs:
                    expected = [(record, kind) for record, row in enumerate(image) for kind in range(len(row))
                                if row[kind] != second[record][kind]]
                    self.assertEqual(unlike(scheme, laying, other), expected)

    def test_a_new_list_of_pairs(self):
        scheme = Scheme((3,), (1,), 0)
        first = unlike(scheme, (0, 1, 2), (0, 2, 1))
        self.assertEqual([type(first)] + [type(pair) for pair in first], [list] + [tuple] * 3)
        first.clear()
        self.assertEqual(unlike(scheme, (0, 1, 2), (0, 2, 1)), [(0, 0), (1, 0), (2, 0)])

    def test_wrong_arguments(self):
        scheme = Scheme((4,), (1, 2), 0)
        laying = (0, 1, 2, 3)
        for wrong in wrong_layings(4) + [image_of(scheme, laying)]:
            for call in [(wrong, laying), (laying, wrong), (wrong, wrong), (wrong, None)]:
                with self.assertRaises(NoLaying):
                    unlike(scheme, *call)


if __name__ == "__main__":
    unittest.main()
