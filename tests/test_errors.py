"""The eleven error classes: their bases and their fields."""

import itertools
import unittest

from linksums import errors

BASES_AND_FIELDS = {
    "InvalidPair": (ValueError, ("table", "place")),
    "InvalidNumber": (ValueError, ("number",)),
    "UnknownPlace": (LookupError, ("place",)),
    "InvalidValues": (ValueError, ("place",)),
    "InvalidTree": (ValueError, ()),
    "NotRight": (ValueError, ("first", "second")),
    "UnequalPairs": (ValueError, ("first", "second")),
    "NoMove": (LookupError, ("move",)),
    "NoWay": (LookupError, ()),
    "NothingToUndo": (LookupError, ()),
    "InvalidText": (ValueError, ("line",)),
}


class ErrorClasses(unittest.TestCase):
    def test_there_are_just_these_classes(self):
        found = [name for name, thing in vars(errors).items() if isinstance(thing, type)]
        self.assertEqual(sorted(found), sorted(BASES_AND_FIELDS))

    def test_bases(self):
        for name, (base, _) in BASES_AND_FIELDS.items():
            with self.subTest(name):
                self.assertEqual(getattr(errors, name).__bases__, (base,))

    def test_each_is_defined_in_this_file(self):
        for name in BASES_AND_FIELDS:
            with self.subTest(name):
                self.assertEqual(getattr(errors, name).__module__, "linksums.errors")

    def test_none_is_a_subclass_of_another(self):
        for one, two in itertools.permutations(BASES_AND_FIELDS, 2):
            with self.subTest(one=one, two=two):
                self.assertFalse(issubclass(getattr(errors, one), getattr(errors, two)))

    def test_fields_by_position(self):
        for name, (_, fields) in BASES_AND_FIELDS.items():
            with self.subTest(name):
                things = [[name, field] for field in fields]
                self.check_fields(getattr(errors, name)(*things), fields, things)

    def test_fields_by_name(self):
        for name, (_, fields) in BASES_AND_FIELDS.items():
            with self.subTest(name):
                things = [[name, field] for field in fields]
                self.check_fields(getattr(errors, name)(**dict(zip(fields, things))), fields, things)

    def test_no_other_fields(self):
        for name, (_, fields) in BASES_AND_FIELDS.items():
            with self.subTest(name):
                error = getattr(errors, name)(*fields)
                self.assertEqual(sorted(vars(error)), sorted(fields))

    def test_an_error_can_be_raised_and_caught_by_its_base(self):
        for name, (base, fields) in BASES_AND_FIELDS.items():
            with self.subTest(name), self.assertRaises(base):
                raise getattr(errors, name)(*fields)

    def check_fields(self, error, fields, things):
        for field, thing in zip(fields, things):
            self.assertIs(getattr(error, field), thing)


if __name__ == "__main__":
    unittest.main()
