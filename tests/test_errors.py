"""The errors: their families and their values."""

import unittest

from strangeseats import errors

REFUSED = {
    "OneHouse": "house",
    "NoLetter": "letter",
    "NoText": "row",
    "NoLine": "line",
    "Taken": "talk",
    "Unlike": None,
    "NotLeast": None,
}
MISSING = {"Nothing": None, "NoTalk": "talk", "NoName": "name", "NoStand": "number"}
VALUES = (0, 7, "ab", None, ("a", 1, 2), [1, [2]], {"a": 1}, True, 10 ** 5000)


class Families(unittest.TestCase):
    def test_the_two_families(self):
        self.assertEqual(errors.Refused.__bases__, (ValueError,))
        self.assertEqual(errors.Missing.__bases__, (LookupError,))
        self.assertFalse(issubclass(errors.Refused, errors.Missing))
        self.assertFalse(issubclass(errors.Missing, errors.Refused))

    def test_each_error_stands_straight_under_its_family(self):
        for family, names in ((errors.Refused, REFUSED), (errors.Missing, MISSING)):
            for name in names:
                with self.subTest(name):
                    self.assertEqual(getattr(errors, name).__bases__, (family,))

    def test_refused_and_missing_are_caught_by_their_families_alone(self):
        with self.assertRaises(ValueError):
            raise errors.OneHouse(3)
        with self.assertRaises(LookupError):
            raise errors.NoTalk("a")
        self.assertNotIsInstance(errors.OneHouse(3), LookupError)
        self.assertNotIsInstance(errors.NoTalk("a"), ValueError)


class Values(unittest.TestCase):
    def valued(self):
        rows = {**REFUSED, **MISSING}
        return [(getattr(errors, name), rows[name]) for name in rows if rows[name]]

    def test_values_by_place(self):
        for kind, attribute in self.valued():
            for value in VALUES:
                with self.subTest(kind.__name__):
                    self.assertIs(getattr(kind(value), attribute), value)

    def test_values_by_name(self):
        for kind, attribute in self.valued():
            with self.subTest(kind.__name__):
                self.assertEqual(getattr(kind(**{attribute: 5}), attribute), 5)

    def test_a_value_is_due(self):
        for kind, attribute in self.valued():
            with self.subTest(kind.__name__):
                self.assertRaises(TypeError, kind)

    def test_errors_without_values(self):
        for kind in (errors.Unlike, errors.NotLeast, errors.Nothing):
            with self.subTest(kind.__name__):
                self.assertRaises(kind, self.raise_one, kind)

    def raise_one(self, kind):
        raise kind()

    def test_each_error_can_be_shown(self):
        for kind, attribute in self.valued():
            for value in VALUES:
                self.assertIsInstance(str(kind(value)), str)


if __name__ == "__main__":
    unittest.main()
