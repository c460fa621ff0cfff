"""[4], [11]: the error classes."""

import unittest

from partedmeet import errors

FIELDS = {
    "NoCommand": ("line",),
    "NoDealing": ("fault",),
    "NoDeed": ("index",),
    "NoParty": ("name",),
    "NoRound": ("name",),
    "NoRule": ("index",),
    "NoSound": ("fault",),
    "NoText": ("line", "column"),
    "Nothing": (),
    "TooMany": ("most",),
    "Used": ("name",),
    "Wrong": ("place",),
}


class Errors(unittest.TestCase):
    def test_fields_are_the_objects_themselves(self):
        for name, fields in FIELDS.items():
            for make in (object, list, dict, lambda: None, lambda: True, lambda: ("a", [1])):
                things = [make() for _ in fields]
                error = getattr(errors, name)(*things)
                for field, thing in zip(fields, things):
                    self.assertIs(getattr(error, field), thing, name)
                self.assertEqual(set(vars(error)), set(fields))

    def test_arguments_have_the_names_of_the_fields(self):
        for name, fields in FIELDS.items():
            error = getattr(errors, name)(**{field: field for field in fields})
            self.assertEqual(vars(error), {field: field for field in fields})

    def test_too_many_and_too_few_arguments(self):
        for name, fields in FIELDS.items():
            with self.assertRaises(TypeError):
                getattr(errors, name)(*([0] * (len(fields) + 1)))
            if fields:
                with self.assertRaises(TypeError):
                    getattr(errors, name)(*([0] * (len(fields) - 1)))

    def test_each_is_a_subclass_of_deal_error_and_of_no_other_one(self):
        self.assertEqual(errors.DealError.__bases__, (ValueError,))
        for name in FIELDS:
            self.assertEqual(getattr(errors, name).__bases__, (errors.DealError,))

    def test_there_are_no_others(self):
        found = {name for name, thing in vars(errors).items() if isinstance(thing, type)}
        self.assertEqual(found, set(FIELDS) | {"DealError"})
        for name in found:
            self.assertEqual(getattr(errors, name).__module__, "partedmeet.errors")

    def test_deal_error_can_be_raised_and_caught(self):
        with self.assertRaises(ValueError):
            raise errors.DealError("some")
        with self.assertRaises(errors.DealError):
            raise errors.NoText(1, 2)


if __name__ == "__main__":
    unittest.main()
