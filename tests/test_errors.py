"""The interface's section on sieve/errors.py."""

import inspect
import unittest

from sieve import errors

VALUE_NAMES = {
    "NoAddress": None,
    "NoRow": "row",
    "TwoChains": "name",
    "NoChain": "name",
    "Ring": "names",
    "TooLong": "total",
    "NoRule": None,
    "Reached": "parcel",
    "OutOfTime": "moment",
    "Taken": None,
    "Full": None,
    "NoTalk": None,
    "NoName": "name",
}

VALUES = {
    "row": 7,
    "name": "guests",
    "names": ["main", "guests"],
    "total": 121,
    "parcel": (0, 6, 1, 2, 3, 4),
    "moment": 10 ** 12,
}


class WhichStandsUnderWhich(unittest.TestCase):
    def test_the_base_stands_straight_under_value_error(self):
        self.assertEqual(errors.SieveError.__bases__, (ValueError,))

    def test_each_of_the_thirteen_stands_straight_under_the_base(self):
        self.assertEqual(len(VALUE_NAMES), 13)
        for name in VALUE_NAMES:
            self.assertEqual(getattr(errors, name).__bases__, (errors.SieveError,), name)

    def test_none_stands_under_another(self):
        for one in VALUE_NAMES:
            for other in VALUE_NAMES:
                under = issubclass(getattr(errors, one), getattr(errors, other))
                self.assertEqual(under, one == other, (one, other))

    def test_each_has_its_own_name(self):
        for name in VALUE_NAMES:
            self.assertEqual(getattr(errors, name).__name__, name)


class Values(unittest.TestCase):
    def made(self, name):
        value_name = VALUE_NAMES[name]
        if value_name is None:
            return getattr(errors, name)()
        return getattr(errors, name)(VALUES[value_name])

    def test_each_value_is_set_when_the_object_is_made(self):
        for name, value_name in VALUE_NAMES.items():
            if value_name is not None:
                self.assertEqual(getattr(self.made(name), value_name), VALUES[value_name], name)

    def test_each_value_is_the_objects_own(self):
        one = errors.NoRow(1)
        other = errors.NoRow(2)
        self.assertEqual((one.row, other.row), (1, 2))

    def test_a_value_is_handed_in_by_its_name_too(self):
        for name, value_name in VALUE_NAMES.items():
            if value_name is not None:
                given = list(inspect.signature(getattr(errors, name)).parameters)
                self.assertEqual(given, [value_name], name)

    def test_least_values(self):
        self.assertEqual(errors.TooLong(0).total, 0)
        self.assertEqual(errors.OutOfTime(0).moment, 0)
        self.assertEqual(errors.NoName("").name, "")
        self.assertEqual(errors.Ring([]).names, [])

    def test_each_is_taken_as_a_sieve_error_and_as_a_value_error(self):
        for name in VALUE_NAMES:
            for base in (getattr(errors, name), errors.SieveError, ValueError):
                with self.assertRaises(base):
                    raise self.made(name)

    def test_each_shows_some_words(self):
        for name, value_name in VALUE_NAMES.items():
            if value_name is not None:
                self.assertNotEqual(str(self.made(name)), "", name)


class TheNamesOfARing(unittest.TestCase):
    def test_what_is_kept_is_a_copy(self):
        given = ["main", "guests"]
        ring = errors.Ring(given)
        given.append("more")
        self.assertEqual(ring.names, ["main", "guests"])

    def test_what_is_handed_in_is_not_changed(self):
        given = ["main", "guests"]
        ring = errors.Ring(given)
        ring.names.append("more")
        self.assertEqual(given, ["main", "guests"])

    def test_the_list_stands_nowhere_else_in_the_error(self):
        given = ["main"]
        ring = errors.Ring(given)
        self.assertFalse([part for part in ring.args if isinstance(part, list)])


if __name__ == "__main__":
    unittest.main()
