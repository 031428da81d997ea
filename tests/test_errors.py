"""Point 5: the errors."""

import unittest

from steplinks import errors
from helping import deep

WITHOUT = ["NoPlace", "NoLaying", "NoImage", "NoKinds", "NoNumber", "NoRecord", "NotRing", "NotWide", "NoEdit",
           "NoRow", "NoValue", "Full", "NoMany", "NoOrder", "Fallen", "Asleep", "NoKind", "NoEntry", "NothingDone"]
FIELDS = {"TooMany": "most", "BadScheme": "part", "NotSure": "distance", "BadText": "line"}


class Bases(unittest.TestCase):
    def test_link_error_is_a_value_error(self):
        self.assertEqual(errors.LinkError.__bases__, (ValueError,))

    def test_all_others_derive_from_link_error_alone(self):
        for name in WITHOUT + list(FIELDS):
            with self.subTest(name):
                self.assertEqual(getattr(errors, name).__bases__, (errors.LinkError,))

    def test_none_is_a_subclass_of_another(self):
        kinds = [getattr(errors, name) for name in WITHOUT + list(FIELDS)]
        self.assertEqual(len(set(kinds)), 23)
        for kind in kinds:
            self.assertEqual([other for other in kinds if issubclass(kind, other)], [kind])

    def test_names_are_their_own(self):
        for name in WITHOUT + list(FIELDS) + ["LinkError"]:
            kind = getattr(errors, name)
            self.assertEqual((kind.__name__, kind.__module__), (name, "steplinks.errors"))

    def test_the_same_holds_of_each_class_in_the_file(self):
        found = [kind for kind in vars(errors).values() if isinstance(kind, type) and kind is not errors.LinkError]
        self.assertGreaterEqual(len(found), 23)
        for kind in found:
            self.assertEqual(kind.__bases__, (errors.LinkError,))


class WithoutFields(unittest.TestCase):
    def test_made_without_arguments_raised_and_caught(self):
        for name in WITHOUT + ["LinkError"]:
            kind = getattr(errors, name)
            with self.subTest(name), self.assertRaises(kind) as caught:
                raise kind()
            self.assertIs(type(caught.exception), kind)
            self.assertEqual(vars(caught.exception), {})

    def test_caught_as_value_errors(self):
        for name in WITHOUT + list(FIELDS):
            kind = getattr(errors, name)
            made = kind(3) if name in FIELDS else kind()
            self.assertIsInstance(made, errors.LinkError)
            self.assertIsInstance(made, ValueError)


class WithFields(unittest.TestCase):
    def test_field_keeps_the_very_value(self):
        values = [0, -1, 10 ** 999, True, None, "", "steps", (), (1, (2,)), [], [1, [2]], {}, {"a": [1]},
                  deep(lambda inner: [inner]), deep(lambda inner: (inner,)), deep(lambda inner: {0: inner}),
                  errors.NoPlace(), errors.TooMany(3)]
        for name, field in FIELDS.items():
            for value in values:
                made = getattr(errors, name)(value)
                self.assertIs(getattr(made, field), value)
                self.assertEqual(list(vars(made)), [field])

    def test_field_follows_a_list_that_changes_later(self):
        rows = [1]
        made = errors.TooMany(rows)
        rows.append(2)
        self.assertEqual(made.most, [1, 2])

    def test_field_is_kept_when_raised(self):
        for name, field in FIELDS.items():
            kind = getattr(errors, name)
            with self.assertRaises(kind) as caught:
                raise kind(7)
            self.assertEqual(getattr(caught.exception, field), 7)

    def test_exactly_one_argument(self):
        for name in FIELDS:
            with self.assertRaises(TypeError):
                getattr(errors, name)()
            with self.assertRaises(TypeError):
                getattr(errors, name)(1, 2)

    def test_wording_can_be_read(self):
        for name in WITHOUT:
            self.assertIsInstance(str(getattr(errors, name)()), str)
        for name in FIELDS:
            self.assertIsInstance(str(getattr(errors, name)(deep(lambda inner: [inner]))), str)


if __name__ == "__main__":
    unittest.main()
