"""[3] and the interface of errors.py."""

import unittest

from pillarstore import errors

PLAIN = ["NoRow", "NoHeap", "NoMoment", "NotSound", "NoRoom", "NoPart", "NoFile", "NoName", "Taken"]
FIELDS = {"BadBytes": ("why", "short"), "BadRow": ("place", 3), "BadText": ("line", 0)}


class ErrorsTest(unittest.TestCase):
    def test_store_error_stands_straight_under_value_error(self):
        self.assertEqual(errors.StoreError.__bases__, (ValueError,))

    def test_each_refusal_stands_straight_under_store_error(self):
        for name in PLAIN + list(FIELDS):
            with self.subTest(name):
                self.assertEqual(getattr(errors, name).__bases__, (errors.StoreError,))

    def test_no_refusal_stands_under_another_one(self):
        made = [getattr(errors, name) for name in PLAIN + list(FIELDS)]
        for one in made:
            for other in made:
                self.assertEqual(issubclass(one, other), one is other)

    def test_there_are_no_other_classes(self):
        classes = [name for name, thing in vars(errors).items() if isinstance(thing, type)]
        self.assertEqual(sorted(classes), sorted(["StoreError", *PLAIN, *FIELDS]))

    def test_plain_refusals_are_raised_and_caught_as_store_errors(self):
        for name in PLAIN:
            with self.subTest(name), self.assertRaises(errors.StoreError):
                raise getattr(errors, name)("words")

    def test_fields_are_set_when_made(self):
        for name, (field, value) in FIELDS.items():
            with self.subTest(name):
                made = getattr(errors, name)(value)
                self.assertEqual(getattr(made, field), value)
                self.assertEqual(vars(made), {field: value})


if __name__ == "__main__":
    unittest.main()
