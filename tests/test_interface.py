"""Point 17: what each file defines, and that calls keep what they were given."""

import inspect
import unittest

from steplinks import (choosing, distances, doubts, edits, errors, faults, layings, mending, orders, rings, sheets,
                       store, texts)
from steplinks.errors import LinkError
from helping import deep

LISTED = {
    errors: {"LinkError": None, "NoPlace": None, "NoLaying": None, "NoImage": None, "NoKinds": None, "NoNumber": None,
             "NoRecord": None, "NotRing": None, "NotWide": None, "NoEdit": None, "NoRow": None, "NoValue": None,
             "Full": None, "NoMany": None, "NoOrder": None, "Fallen": None, "Asleep": None, "NoKind": None,
             "NoEntry": None, "NothingDone": None, "TooMany": ["most"], "BadScheme": ["part"],
             "NotSure": ["distance"], "BadText": ["line"]},
    sheets: {"Scheme": ["moduli", "steps", "numbers"], "places": ["scheme"], "plus": ["scheme", "one", "other"],
             "less": ["scheme", "one", "other"], "rests": ["scheme", "place"], "closed": ["scheme", "kinds"]},
    layings: {"image_of": ["scheme", "laying"], "plain": ["scheme", "laying"], "is_image": ["scheme", "thing"],
              "laying_of": ["scheme", "image"], "gainsaid": ["scheme", "laying", "image"],
              "unlike": ["scheme", "one", "other"]},
    distances: {"least_distance": ["scheme"], "two_layings": ["scheme"],
                "halfway": ["scheme", "false", "unreadable"],
                "is_halfway": ["scheme", "false", "unreadable", "thing"]},
    mending: {"nearest": ["scheme", "image", "most"], "mended": ["scheme", "image", "false"]},
    faults: {"fault": ["scheme", "image"], "is_fault": ["scheme", "image", "thing"]},
    doubts: {"near_layings": ["scheme", "image", "most"],
             "can_stand": ["scheme", "image", "most", "record", "place"],
             "surely_false": ["scheme", "image", "most"]},
    rings: {"window": ["scheme", "often"], "mended_ring": ["scheme", "image", "often"]},
    edits: {"edited": ["scheme", "laying", "edit"], "writes": ["scheme", "one", "other"],
            "written": ["scheme", "one", "row"], "seams": ["scheme", "one", "other"]},
    orders: {"third": ["scheme", "one", "other", "row"], "is_third": ["scheme", "one", "other", "row", "thing"],
             "any_row": ["scheme", "one", "other"], "safe_row": ["scheme", "one", "other"]},
    store: {"Store": ["records", "ahead", "back"]},
    choosing: {"best_steps": ["places", "kinds", "reach"], "cheapest": ["places", "distance", "reach"]},
    texts: {"image_text": ["scheme", "image"], "read_image": ["text"]},
}


METHODS = {"rows": [], "many": [], "where": ["record"], "put": ["at", "value"], "take": ["at"],
           "change": ["at", "value"], "move": ["first", "many", "to"], "turn": ["first", "many"], "by": ["function"],
           "fall": ["many"], "notes": [], "spoil": ["record", "kind", "entry"], "asleep": [], "wake": [], "back": [],
           "copy": []}


class Interface(unittest.TestCase):
    def test_each_name_is_defined_in_its_file_with_its_arguments(self):
        for module, names in LISTED.items():
            for name, arguments in names.items():
                found = getattr(module, name)
                self.assertEqual(found.__module__, module.__name__, name)
                if arguments is not None:
                    self.assertEqual(list(inspect.signature(found).parameters), arguments, name)

    def test_scheme_defines_its_own_equality(self):
        self.assertIn("__eq__", vars(sheets.Scheme))


    def test_store_defines_its_own_methods(self):
        for name, arguments in METHODS.items():
            self.assertIn(name, vars(store.Store))
            self.assertEqual(list(inspect.signature(vars(store.Store)[name]).parameters), ["self"] + arguments, name)


class Calls(unittest.TestCase):
    """Points 2 to 4, over all functions."""

    def calls(self, scheme, laying, image):
        return [sheets.places(scheme), sheets.rests(scheme, 3), sheets.plus(scheme, 3, 4), sheets.less(scheme, 3, 4),
                sheets.closed(scheme, (0,)), layings.image_of(scheme, laying), layings.plain(scheme, laying),
                layings.is_image(scheme, image), layings.laying_of(scheme, image),
                layings.gainsaid(scheme, laying, image), layings.unlike(scheme, laying, laying[::-1]),
                distances.least_distance(scheme), distances.two_layings(scheme), distances.halfway(scheme, 4, 1),
                distances.is_halfway(scheme, 4, 1, distances.halfway(scheme, 4, 1)),
                mending.nearest(scheme, image, 3), mending.mended(scheme, image, 1), faults.fault(scheme, image),
                faults.is_fault(scheme, image, (0, ((0, 0, True),))), doubts.near_layings(scheme, image, 4),
                doubts.can_stand(scheme, image, 4, 2, 5), doubts.surely_false(scheme, image, 4)]

    def ring_calls(self, scheme, one, other):
        row = edits.writes(scheme, one, other)
        return [rings.window(scheme, 1), rings.mended_ring(scheme, edits.written(scheme, one, row[:1]), 1), row,
                edits.edited(scheme, one, ("turn", 4, 2)), edits.written(scheme, one, row),
                edits.seams(scheme, one, other)]

    def order_calls(self, scheme, one, other):
        row = edits.writes(scheme, one, other)
        return [orders.third(scheme, one, other, row), orders.is_third(scheme, one, other, row, (2, one)),
                orders.safe_row(scheme, one, other), orders.any_row(scheme, one, other),
                texts.read_image(texts.image_text(scheme, layings.image_of(scheme, other))),
                choosing.best_steps(9, 2, 3), choosing.cheapest(9, 6, 3)]

    def test_equal_calls_give_equal_results_and_change_no_scheme(self):
        for numbers in (0, 1):
            scheme = sheets.Scheme((2, 3), (1, 3), numbers)
            laying = (5, 4, 3, 2, 1, 0)
            image = layings.image_of(scheme, (0, 2, 1, 3, 5, 4))
            first = self.calls(scheme, laying, image)
            self.assertEqual(self.calls(scheme, laying, image), first)
            self.assertEqual(self.calls(sheets.Scheme((2, 3), (1, 3), numbers), laying, image), first)
            self.assertEqual((scheme.moduli, scheme.steps, scheme.numbers), ((2, 3), (1, 3), numbers))

    def test_equal_calls_on_a_ring(self):
        scheme = sheets.Scheme((30,), (1, 2), 0)
        one = tuple(range(30))
        other = one[5:20] + one[25:] + one[:5] + one[20:25]
        first = self.ring_calls(scheme, one, other)
        self.assertEqual(self.ring_calls(scheme, one, other), first)
        self.assertEqual(self.ring_calls(sheets.Scheme((30,), (1, 2), 0), one, other), first)
        self.assertEqual((scheme.moduli, scheme.steps, scheme.numbers), ((30,), (1, 2), 0))

    def test_equal_calls_on_a_small_ring(self):
        scheme = sheets.Scheme((7,), (1,), 0)
        one, other = (0, 1, 2, 3, 4, 5, 6), (0, 2, 1, 3, 5, 4, 6)
        first = self.order_calls(scheme, one, other)
        self.assertEqual(self.order_calls(scheme, one, other), first)
        self.assertEqual(self.order_calls(sheets.Scheme((7,), (1,), 0), one, other), first)
        self.assertEqual((scheme.moduli, scheme.steps, scheme.numbers), ((7,), (1,), 0))

    def test_refused_calls_change_no_scheme(self):
        scheme = sheets.Scheme((2, 3), (1, 3), 1)
        wrong = deep(lambda inner: [inner])
        for call in [lambda: sheets.rests(scheme, wrong), lambda: sheets.plus(scheme, wrong, wrong),
                     lambda: sheets.less(scheme, 0, wrong), lambda: sheets.closed(scheme, wrong),
                     lambda: layings.image_of(scheme, wrong), lambda: layings.plain(scheme, wrong),
                     lambda: layings.laying_of(scheme, wrong), lambda: layings.gainsaid(scheme, wrong, wrong),
                     lambda: layings.unlike(scheme, wrong, wrong), lambda: distances.halfway(scheme, wrong, wrong),
                     lambda: distances.is_halfway(scheme, 0, wrong, wrong), lambda: mending.nearest(scheme, wrong, 0),
                     lambda: mending.mended(scheme, wrong, wrong), lambda: faults.fault(scheme, wrong),
                     lambda: faults.is_fault(scheme, wrong, wrong), lambda: doubts.near_layings(scheme, wrong, 0),
                     lambda: doubts.can_stand(scheme, wrong, 0, 0, 0), lambda: doubts.surely_false(scheme, wrong, wrong),
                     lambda: rings.window(scheme, wrong), lambda: rings.mended_ring(scheme, wrong, wrong),
                     lambda: edits.edited(scheme, wrong, wrong), lambda: edits.writes(scheme, wrong, wrong),
                     lambda: orders.third(scheme, wrong, wrong, wrong), lambda: texts.image_text(scheme, wrong)]:
            with self.assertRaises(LinkError):
                call()
        self.assertEqual((scheme.moduli, scheme.steps, scheme.numbers), ((2, 3), (1, 3), 1))
        self.assertEqual(wrong, deep(lambda inner: [inner]))


if __name__ == "__main__":
    unittest.main()
