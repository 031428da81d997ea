"""Point 13: edits, writes, what is written, and seams."""

import random
import unittest

from steplinks.edits import edited, seams, writes, written
from steplinks.errors import NoEdit, NoLaying, NoRow, NotRing
from steplinks.layings import image_of, plain
from steplinks.sheets import Scheme, places
from helping import (apart_by_hand, deep, far_integers, image_by_hand, images_by_hand, oddities, random_laying,
                     random_scheme, written_in)

NOT_RINGS = [Scheme((2, 3), (1, 3), 0), Scheme((2, 2), (1, 2), 1), Scheme((5,), (1,), 1), Scheme((5,), (1, 2), 3),
             Scheme((6,), (2,), 1)]


def from_zero(row):
    """A row of records on a ring, told from record 0 on."""
    at = row.index(0)
    return tuple(row[at:]) + tuple(row[:at])


def walk(row, first, last):
    """The records that one meets from one on to another one, going on round the ring."""
    at = row.index(first)
    met = [row[at]]
    while met[-1] != last:
        at = (at + 1) % len(row)
        met.append(row[at])
    return met


def edited_by_hand(row, edit):
    """A row of records behind an edit, place by place; None if it is no edit."""
    row = list(row)
    word, first, last = edit[:3]
    if word == "exchange":
        return [{first: last, last: first}.get(record, record) for record in row]
    met = walk(row, first, last)
    if word == "turn":
        start = row.index(first)
        for step, record in enumerate(reversed(met)):
            row[(start + step) % len(row)] = record
        return row
    if edit[3] in met:
        return None
    left = [record for record in row if record not in met]
    for record in reversed(met):
        left.insert(left.index(edit[3]) + 1, record)
    return left


def drawn_edit(rng, many):
    records = [rng.randrange(many) for _ in range(3)]
    if rng.random() < 0.3:
        records[1] = records[0]
    word = rng.choice(["exchange", "turn", "move"])
    return (word, *records) if word == "move" else (word, *records[:2])


def rings(rng, sizes=(3, 4, 5, 7, 12, 40)):
    """Rings without numbers, with drawn steps."""
    for many in sizes:
        for kinds in (1, 2, 4):
            yield random_scheme(rng, (many,), kinds, 0)


class Edited(unittest.TestCase):
    def test_drawn_edits(self):
        rng = random.Random(13)
        for scheme in rings(rng):
            many = places(scheme)
            for _ in range(60):
                laying = random_laying(rng, many)
                edit = drawn_edit(rng, many)
                expected = edited_by_hand(laying, edit)
                if expected is None or edit[0] == "exchange" and edit[1] == edit[2]:
                    with self.assertRaises(NoEdit):
                        edited(scheme, laying, edit)
                else:
                    self.assertEqual(edited(scheme, laying, edit), from_zero(expected), (laying, edit))

    def test_each_edit_of_a_small_ring(self):
        for many in (3, 4, 5):
            scheme = Scheme((many,), (1,), 0)
            laying = tuple(range(many - 1, -1, -1))
            for x in range(many):
                for y in range(many):
                    self.assertEqual(edited(scheme, laying, ("turn", x, y)),
                                     from_zero(edited_by_hand(laying, ("turn", x, y))))
                    for z in range(many):
                        expected = edited_by_hand(laying, ("move", x, y, z))
                        if expected is None:
                            with self.assertRaises(NoEdit):
                                edited(scheme, laying, ("move", x, y, z))
                        else:
                            self.assertEqual(edited(scheme, laying, ("move", x, y, z)), from_zero(expected))

    def test_examples(self):
        scheme = Scheme((6,), (1, 2), 0)
        one = (0, 1, 2, 3, 4, 5)
        for edit, expected in [(("exchange", 1, 4), (0, 4, 2, 3, 1, 5)), (("exchange", 0, 2), (0, 3, 4, 5, 2, 1)),
                               (("turn", 1, 3), (0, 3, 2, 1, 4, 5)), (("turn", 5, 1), (0, 5, 2, 3, 4, 1)),
                               (("turn", 3, 2), (0, 5, 4, 3, 2, 1)), (("turn", 0, 5), (0, 5, 4, 3, 2, 1)),
                               (("turn", 4, 4), one), (("move", 1, 2, 4), (0, 3, 4, 1, 2, 5)),
                               (("move", 4, 1, 2), (0, 1, 3, 2, 4, 5)), (("move", 5, 5, 4), one),
                               (("move", 1, 5, 0), one), (("move", 1, 4, 5), (0, 5, 1, 2, 3, 4))]:
            self.assertEqual(edited(scheme, one, edit), expected, edit)

    def test_the_edit_that_takes_it_back(self):
        rng = random.Random(131)
        for scheme in rings(rng, (3, 6, 17)):
            many = places(scheme)
            for _ in range(40):
                laying = plain(scheme, random_laying(rng, many))
                x, y, z = rng.sample(range(many), 3)
                back = edited(scheme, edited(scheme, laying, ("exchange", x, y)), ("exchange", y, x))
                self.assertEqual(back, laying)
                back = edited(scheme, edited(scheme, laying, ("turn", x, y)), ("turn", y, x))
                self.assertEqual(back, laying)
                if z not in walk(laying, x, y):
                    ahead = laying[laying.index(x) - 1]
                    moved = edited(scheme, laying, ("move", x, y, z))
                    self.assertEqual(edited(scheme, moved, ("move", x, y, ahead)), laying)

    def test_what_is_no_edit(self):
        for scheme in [Scheme((5,), (1, 2), 0), Scheme((40,), (1,), 0)]:
            laying = tuple(range(places(scheme)))
            wrongs = oddities() + far_integers() + [
                (), ("exchange",), ("exchange", 1), ("exchange", 1, 1), ("exchange", 1, 2, 3), ("turn", 1),
                ("turn", 1, 2, 3), ("move", 1, 2), ("move", 1, 2, 3, 4), ("move", 1, 3, 2), ("move", 1, 3, 1),
                ("move", 1, 3, 3), ("move", 2, 1, 0), ("Exchange", 1, 2), ("exchange ", 1, 2), ("", 1, 2), (1, 2, 3),
                (None, 1, 2), ["exchange", 1, 2], ("exchange", [1, 2]), ("exchange", (1, 2)), ("exchange", True, 2),
                ("exchange", 2, False), ("turn", True, True), ("turn", None, 2), ("move", 1, 2, True),
                ("move", 1, 2, None), ("turn", -1, 2), ("turn", 1, places(scheme)), ("exchange", 1, 10 ** 999),
                ("move", 1, 2, "3"), ("turn", (1,), 2), (("turn",), 1, 2), ("turn", 1, deep(lambda inner: [inner])),
                ("move", 1, 2, deep(lambda inner: {"a": inner})), (laying, 1, 2), (scheme, 1, 2), ("turn", scheme, 1),
                {"turn": 1}, ("turn",) * 3]
            for wrong in wrongs:
                before = repr(wrong)
                with self.assertRaises(NoEdit):
                    edited(scheme, laying, wrong)
                self.assertEqual(repr(wrong), before)


class Writes(unittest.TestCase):
    def test_against_both_images(self):
        rng = random.Random(132)
        for scheme in rings(rng):
            one = random_laying(rng, places(scheme))
            for other in [one, edited(scheme, one, ("exchange", 0, 1)), random_laying(rng, places(scheme))]:
                first, second = images_by_hand(scheme.moduli, scheme.steps, 0, [one, other])
                expected = [(record, kind, second[record][kind]) for record, kind in apart_by_hand(first, second)]
                row = writes(scheme, one, other)
                self.assertEqual(row, tuple(expected))
                self.assertIs(type(row), tuple)
                rng.shuffle(expected)
                self.assertEqual(written(scheme, one, tuple(expected)), second)
                self.assertEqual(written(scheme, one, ()), first)

    def test_alike_layings(self):
        scheme = Scheme((5,), (2, 3), 0)
        self.assertEqual(writes(scheme, (0, 1, 2, 3, 4), (3, 4, 0, 1, 2)), ())
        self.assertEqual(writes(Scheme((4,), (1,), 0), (0, 1, 2, 3), (0, 2, 1, 3)), ((0, 0, 2), (1, 0, 3), (2, 0, 1)))

    def test_drawn_writes(self):
        rng = random.Random(133)
        for scheme in rings(rng):
            many = places(scheme)
            one = random_laying(rng, many)
            image = image_by_hand(scheme.moduli, scheme.steps, 0, one)
            row = [(rng.randrange(many), rng.randrange(len(scheme.steps)), rng.randrange(many)) for _ in range(30)]
            row += [(0, 0, many - 1), (0, 0, 0)]
            for record, kind, name in row:
                image = written_in(image, {(record, kind): name})
            self.assertEqual(written(scheme, one, tuple(row)), image)

    def test_many_writes(self):
        scheme = Scheme((4,), (1,), 0)
        row = tuple((at % 4, 0, at % 3) for at in range(20000))
        self.assertEqual(written(scheme, (0, 1, 2, 3), row), ((1,), (2,), (0,), (1,)))

    def test_what_is_no_row(self):
        scheme = Scheme((5,), (1, 2), 0)
        laying = (0, 1, 2, 3, 4)
        wrongs = [wrong for wrong in oddities() if wrong != ()] + far_integers()
        for part in [None, True, False, -1, 5, 10 ** 999, "1", (1,), [1], {}, deep(lambda inner: (inner,))]:
            wrongs += [((part, 0, 0),), ((0, part, 0),), ((0, 0, part),), ((1, 1, 1), (0, 0, part)), (part,)]
        wrongs += [((0, 2, 0),), ((0, 0),), ((0, 0, 0, 0),), ([0, 0, 0],), [(0, 0, 0)], ((0, 0, 1), None), (0, 0, 1),
                   {(0, 0, 1): 1}]
        for wrong in wrongs:
            before = repr(wrong)
            with self.assertRaises(NoRow):
                written(scheme, laying, wrong)
            self.assertEqual(repr(wrong), before)


class Seams(unittest.TestCase):
    def test_drawn_layings(self):
        rng = random.Random(134)
        for scheme in rings(rng):
            many = places(scheme)
            for _ in range(10):
                one = random_laying(rng, many)
                other = random_laying(rng, many) if rng.random() < 0.5 else edited(scheme, one, ("turn", 0, 1))
                expected = [record for record in range(many) if one[(one.index(record) + 1) % many]
                            != other[(other.index(record) + 1) % many]]
                self.assertEqual(seams(scheme, one, other), tuple(expected))

    def test_few(self):
        scheme = Scheme((7,), (3,), 0)
        one = tuple(range(7))
        self.assertEqual(seams(scheme, one, one[3:] + one[:3]), ())
        self.assertEqual(seams(scheme, one, edited(scheme, one, ("move", 2, 3, 5))), (1, 3, 5))
        self.assertEqual(seams(scheme, one, edited(scheme, one, ("exchange", 1, 4))), (0, 1, 3, 4))


class Refused(unittest.TestCase):
    def calls(self, scheme, one, other, thing):
        return [lambda: edited(scheme, one, thing), lambda: writes(scheme, one, other),
                lambda: written(scheme, one, thing), lambda: seams(scheme, one, other)]

    def test_what_is_no_such_ring(self):
        for scheme in NOT_RINGS:
            right = tuple(range(places(scheme)))
            for one in [right, None, deep(lambda inner: [inner])]:
                for call in self.calls(scheme, one, one, ("exchange", 0, 1)) + self.calls(scheme, one, None, None):
                    with self.assertRaises(NotRing):
                        call()

    def test_what_is_no_laying(self):
        scheme = Scheme((5,), (1, 2), 0)
        right = (0, 1, 2, 3, 4)
        for wrong in oddities() + far_integers() + [(), right[1:], right + (5,), (0, 1, 2, 3, 3), list(right),
                                                    (0, 1, 2, 3, "4"), (0, True, 2, 3, 4), image_of(scheme, right)]:
            before = repr(wrong)
            for call in self.calls(scheme, wrong, right, ("turn", 0, 1)) + self.calls(scheme, wrong, wrong, wrong):
                with self.assertRaises(NoLaying):
                    call()
            for call in [lambda: writes(scheme, right, wrong), lambda: seams(scheme, right, wrong)]:
                with self.assertRaises(NoLaying):
                    call()
            self.assertEqual(repr(wrong), before)


if __name__ == "__main__":
    unittest.main()
