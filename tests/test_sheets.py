"""Points 6 and 7: schemes, places, and what kinds of links close."""

import copy
import unittest

from steplinks.errors import BadScheme, NoKinds, NoPlace
from steplinks.sheets import Scheme, closed, less, places, plus, rests
from helping import far_integers, oddities, plus_by_hand, rests_by_hand


class Schemes(unittest.TestCase):
    def wrong(self, part, moduli, steps, numbers):
        with self.assertRaises(BadScheme) as caught:
            Scheme(moduli, steps, numbers)
        self.assertEqual(caught.exception.part, part, (moduli, steps, numbers))

    def test_attributes(self):
        for moduli, steps, numbers in [((3,), (1,), 0), ((2, 3), (1, 4, 4), 0), ((2, 2, 2), (1, 2, 4), 3),
                                       ((9,), (1, 8, 1, 8, 4, 5), 2), ((400,), (399,), 0)]:
            scheme = Scheme(moduli, steps, numbers)
            self.assertEqual((scheme.moduli, scheme.steps, scheme.numbers), (moduli, steps, numbers))
            self.assertEqual([type(part) for part in (scheme.moduli, scheme.steps, scheme.numbers)],
                             [tuple, tuple, int])

    def test_least_and_most_places(self):
        for moduli in [(3,), (2, 2), (4,), (400,), (2, 200), (200, 2), (20, 20), (4, 10, 10), (2, 2, 100)]:
            self.assertEqual(Scheme(moduli, (1,), 1).moduli, moduli)
        for moduli in [(2,), (401,), (2, 201), (20, 21), (7, 7, 9), (4, 10, 11)]:
            self.wrong("moduli", moduli, (1,), 1)

    def test_how_many_moduli(self):
        for moduli in [(), (2, 2, 2, 2), (2,) * 8, (2,) * 99999]:
            self.wrong("moduli", moduli, (1,), 1)

    def test_each_modulus(self):
        for moduli in [(1,), (0,), (1, 5), (5, 1), (0, 5), (-3,), (-2, -3), (3, 0, 3), (-2, -2, 3), (5, 3, 1),
                       (10 ** 999,), (10 ** 999, 10 ** 999, 10 ** 999), (3, 10 ** 999), (3, True), (True, 5),
                       (5, None), (5, "5"), (5, (5,)), (5, [5])]:
            self.wrong("moduli", moduli, (1,), 1)

    def test_moduli_of_other_kinds(self):
        for moduli in oddities() + far_integers() + [[5], [2, 3], 5, (), "5", {5: 5}]:
            self.wrong("moduli", moduli, (1,), 1)

    def test_how_many_steps(self):
        for many in range(1, 7):
            self.assertEqual(Scheme((5,), (1,) * many, 0).steps, (1,) * many)
        for many in [0, 7, 8, 99999]:
            self.wrong("steps", (5,), (1,) * many, 1)

    def test_each_step(self):
        for steps in [(1,), (8,), (1, 8), (1, 1), (4, 4, 5)]:
            self.assertEqual(Scheme((9,), steps, 0).steps, steps)
        for steps in [(0,), (1, 0), (0, 1), (9,), (1, 9), (-1,), (1, -8), (10 ** 999,), (1, True), (True,), (False,),
                      (1, None), (1, "1"), (1, (1,)), ((0, 1),), (1, [1])]:
            self.wrong("steps", (9,), steps, 1)

    def test_steps_of_sheets_are_told_by_their_numbers(self):
        self.assertEqual(Scheme((2, 3), (5,), 0).steps, (5,))
        self.assertEqual(Scheme((4, 10, 10), (399,), 1).steps, (399,))
        self.wrong("steps", (2, 3), (6,), 1)
        self.wrong("steps", (4, 10, 10), (400,), 1)

    def test_steps_of_other_kinds(self):
        for steps in oddities() + far_integers() + [[1], 1, (), "1", {1: 1}]:
            self.wrong("steps", (5,), steps, 1)

    def test_numbers(self):
        for numbers in [0, 1, 2, 3]:
            self.assertEqual(Scheme((5,), (1,), numbers).numbers, numbers)
        for numbers in oddities() + far_integers() + [4, 5, -1, ()]:
            self.wrong("numbers", (5,), (1,), numbers)

    def test_without_numbers_steps_have_to_lead_everywhere(self):
        for moduli, steps in [((4,), (2,)), ((6,), (3,)), ((6,), (2, 4)), ((400,), (2, 4, 6)), ((2, 2), (1,)),
                              ((2, 2), (3, 3)), ((3, 3), (4, 8)), ((2, 4), (4, 2)), ((2, 2, 2), (1, 2, 3)),
                              ((2, 2, 3), (1, 3, 4))]:
            self.wrong("steps", moduli, steps, 0)
            for numbers in [1, 2, 3]:
                self.assertEqual(Scheme(moduli, steps, numbers).steps, steps)
        for moduli, steps in [((6,), (2, 3)), ((6,), (5,)), ((2, 2), (1, 2)), ((2, 3), (4,)), ((3, 3), (4, 5)),
                              ((2, 2, 2), (1, 2, 7)), ((2, 2, 3), (1, 3, 6)), ((400,), (16, 25))]:
            self.assertEqual(Scheme(moduli, steps, 0).steps, steps)

    def test_the_first_wrong_part_is_told(self):
        self.wrong("moduli", (2,), (0,), 4)
        self.wrong("moduli", [5], [1], None)
        self.wrong("moduli", (5, True), (1,), True)
        self.wrong("steps", (5,), (5,), 4)
        self.wrong("steps", (5,), (), None)
        self.wrong("steps", (6,), [2], 0)
        self.wrong("numbers", (6,), (2,), 4)
        self.wrong("numbers", (6,), (2,), False)
        self.wrong("numbers", (6,), (2,), -1)

    def test_equal_schemes(self):
        scheme = Scheme((2, 3), (1, 4), 1)
        self.assertIs(scheme == Scheme((2, 3), (1, 4), 1), True)
        self.assertIs(scheme != Scheme((2, 3), (1, 4), 1), False)
        self.assertIs(scheme == scheme, True)

    def test_unequal_schemes(self):
        scheme = Scheme((2, 3), (1, 4), 1)
        for other in [Scheme((3, 2), (1, 4), 1), Scheme((6,), (1, 4), 1), Scheme((2, 3), (4, 1), 1),
                      Scheme((2, 3), (1,), 1), Scheme((2, 3), (1, 4, 4), 1), Scheme((2, 3), (1, 4), 2),
                      Scheme((2, 3), (1, 4), 0)]:
            self.assertIs(scheme == other, False)
            self.assertIs(scheme != other, True)

    def test_schemes_and_other_things(self):
        scheme = Scheme((2, 3), (1, 4), 1)
        for other in oddities() + far_integers() + [((2, 3), (1, 4), 1), [(2, 3), (1, 4), 1], 1]:
            self.assertIs(scheme == other, False)
            self.assertIs(other == scheme, False)
            self.assertIs(scheme != other, True)

    def test_what_is_handed_in_stays_as_it_is(self):
        for part in oddities():
            before = repr(part)
            for handed in [(part, (1,), 0), ((5,), part, 0), ((5,), (1,), part)]:
                with self.assertRaises(BadScheme):
                    Scheme(*handed)
            self.assertEqual(repr(part), before)


class Places(unittest.TestCase):
    schemes = [Scheme(moduli, steps, numbers) for moduli, steps, numbers in [
        ((3,), (1,), 0), ((7,), (3,), 0), ((2, 2), (1, 2), 0), ((2, 5), (6,), 1), ((5, 2), (3,), 0),
        ((2, 3, 4), (1, 4, 12), 0), ((4, 3, 2), (23,), 2), ((3, 3, 3), (13,), 1)]]

    def test_how_many(self):
        self.assertEqual([places(scheme) for scheme in self.schemes], [3, 7, 4, 10, 10, 24, 24, 27])
        self.assertEqual(places(Scheme((400,), (1,), 0)), 400)
        self.assertEqual(places(Scheme((4, 10, 10), (1,), 1)), 400)

    def test_rests_by_eye(self):
        self.assertEqual([rests(Scheme((3,), (1,), 0), place) for place in range(3)], [(0,), (1,), (2,)])
        self.assertEqual([rests(Scheme((2, 3), (1,), 1), place) for place in range(6)],
                         [(0, 0), (0, 1), (0, 2), (1, 0), (1, 1), (1, 2)])
        scheme = Scheme((2, 3, 4), (1,), 1)
        self.assertEqual([rests(scheme, place) for place in (0, 1, 4, 12, 23)],
                         [(0, 0, 0), (0, 0, 1), (0, 1, 0), (1, 0, 0), (1, 2, 3)])

    def test_rests_are_in_ascending_order(self):
        for scheme in self.schemes + [Scheme((4, 10, 10), (1,), 1), Scheme((400,), (1,), 1)]:
            found = [rests(scheme, place) for place in range(places(scheme))]
            self.assertEqual(found, rests_by_hand(scheme.moduli))

    def test_sums_by_eye(self):
        scheme = Scheme((2, 3), (1, 3), 0)
        self.assertEqual(plus(scheme, 5, 5), 1)
        self.assertEqual(plus(scheme, 2, 1), 0)
        self.assertEqual(plus(scheme, 3, 3), 0)
        self.assertEqual(less(scheme, 0, 1), 2)
        self.assertEqual(less(scheme, 0, 4), 5)
        self.assertEqual(less(scheme, 3, 2), 4)
        self.assertEqual(less(scheme, 2, 3), 5)
        self.assertEqual((plus(Scheme((9,), (1,), 0), 8, 8), less(Scheme((9,), (1,), 0), 2, 8)), (7, 3))

    def test_plus_and_less_by_hand(self):
        for scheme in self.schemes:
            for one in range(places(scheme)):
                for other in range(places(scheme)):
                    total = plus_by_hand(scheme.moduli, one, other)
                    self.assertEqual(plus(scheme, one, other), total)
                    self.assertEqual(less(scheme, total, other), one)

    def wrong_places(self, scheme):
        return oddities() + far_integers() + [places(scheme), places(scheme) + 1, (0,), (0, 0), ()]

    def test_places_at_the_bounds(self):
        for scheme in self.schemes:
            last = places(scheme) - 1
            self.assertEqual(rests(scheme, last), tuple(modulus - 1 for modulus in scheme.moduli))
            self.assertEqual(plus(scheme, 0, last), last)
            self.assertEqual(less(scheme, last, last), 0)

    def test_no_place(self):
        for scheme in self.schemes:
            for place in self.wrong_places(scheme):
                before = repr(place)
                for call in [lambda: rests(scheme, place), lambda: plus(scheme, place, 0),
                             lambda: plus(scheme, 0, place), lambda: less(scheme, place, 0),
                             lambda: less(scheme, 0, place), lambda: plus(scheme, place, place),
                             lambda: less(scheme, place, None)]:
                    with self.assertRaises(NoPlace):
                        call()
                self.assertEqual(repr(place), before)


class Closed(unittest.TestCase):
    def test_no_kinds(self):
        for scheme in [Scheme((12,), (1, 4), 0), Scheme((2, 3), (1,), 1)]:
            self.assertEqual(closed(scheme, ()), (0,))

    def test_some_and_all_kinds_of_a_ring(self):
        scheme = Scheme((12,), (4, 6, 8, 3, 6), 0)
        self.assertEqual(closed(scheme, (0,)), (0, 4, 8))
        self.assertEqual(closed(scheme, (1,)), (0, 6))
        self.assertEqual(closed(scheme, (2,)), (0, 4, 8))
        self.assertEqual(closed(scheme, (3,)), (0, 3, 6, 9))
        self.assertEqual(closed(scheme, (0, 2)), (0, 4, 8))
        self.assertEqual(closed(scheme, (1, 4)), (0, 6))
        self.assertEqual(closed(scheme, (0, 1)), (0, 2, 4, 6, 8, 10))
        self.assertEqual(closed(scheme, (2, 3)), tuple(range(12)))
        self.assertEqual(closed(scheme, (0, 1, 2, 3, 4)), tuple(range(12)))

    def test_sheets(self):
        scheme = Scheme((2, 4), (4, 2, 5, 6), 1)
        self.assertEqual(closed(scheme, (0,)), (0, 4))
        self.assertEqual(closed(scheme, (1,)), (0, 2))
        self.assertEqual(closed(scheme, (2,)), (0, 2, 5, 7))
        self.assertEqual(closed(scheme, (3,)), (0, 6))
        self.assertEqual(closed(scheme, (0, 1)), (0, 2, 4, 6))
        self.assertEqual(closed(scheme, (0, 1, 3)), (0, 2, 4, 6))
        self.assertEqual(closed(scheme, (0, 1, 2, 3)), tuple(range(8)))
        self.assertEqual(closed(Scheme((2, 2, 3), (3, 1), 1), (0, 1)), (0, 1, 2, 3, 4, 5))

    def test_steps_that_do_not_lead_everywhere(self):
        self.assertEqual(closed(Scheme((6,), (2,), 1), (0,)), (0, 2, 4))

    def test_a_tuple_of_integers(self):
        found = closed(Scheme((400,), (399,), 0), (0,))
        self.assertEqual(found, tuple(range(400)))
        self.assertIs(type(found), tuple)

    def test_wrong_kinds(self):
        scheme = Scheme((12,), (4, 6, 8), 3)
        wrong = [(1, 0), (0, 0), (0, 2, 1), (0, 1, 1), (3,), (0, 3), (0, 1, 2, 3), (5,), (-1,), (-1, 0), (0, None),
                 (None, 0), (0, True), (False, 1), (0, "1"), (0, (1,)), (10 ** 999,), [], [0], [0, 1], 0, 1, "0",
                 (0,) * 99999]
        for kinds in wrong + oddities() + far_integers():
            before = copy.copy(kinds)
            with self.assertRaises(NoKinds):
                closed(scheme, kinds)
            if isinstance(kinds, (list, tuple, dict)):
                self.assertEqual(kinds, before)


if __name__ == "__main__":
    unittest.main()
