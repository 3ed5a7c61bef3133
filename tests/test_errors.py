"""The error classes: bases, fields, and that none is a subclass of another one."""

import unittest

from midwalk import errors

FIELDS = {
    "InvalidValues": (ValueError, "index"),
    "InvalidMarked": (ValueError, "index"),
    "InvalidRow": (ValueError, "index"),
    "InvalidPasses": (ValueError, "passes"),
    "InvalidNumber": (ValueError, "number"),
    "InvalidPlace": (ValueError, "place"),
    "InvalidValue": (ValueError, "value"),
    "LackingValue": (LookupError, "value"),
    "InvalidBrings": (ValueError, "key"),
    "Endless": (ValueError, "ring"),
    "InvalidText": (ValueError, "line"),
    "TooMany": (ValueError, "count"),
}
BARE = ("Ended", "NothingVisited", "NothingToUndo")


class ErrorsTest(unittest.TestCase):

    def test_each_has_its_base_and_its_field(self):
        for name, (base, field) in FIELDS.items():
            with self.subTest(name):
                made = getattr(errors, name)
                self.assertEqual(made.__bases__, (base,))
                self.assertEqual(made.__module__, "midwalk.errors")
                for held in (None, 0, 7, "x", [1, 2]):
                    self.assertIs(getattr(made(held), field), held)
                self.assertEqual(vars(made(3)), {field: 3})
                self.assertIsInstance(str(made(3)), str)

    def test_those_without_fields(self):
        for name in BARE:
            with self.subTest(name):
                made = getattr(errors, name)
                self.assertEqual(made.__bases__, (LookupError,))
                self.assertEqual(made.__module__, "midwalk.errors")
                self.assertEqual(vars(made()), {})

    def test_none_is_a_subclass_of_another_one(self):
        classes = [getattr(errors, name) for name in [*FIELDS, *BARE]]
        for one in classes:
            for other in classes:
                self.assertEqual(issubclass(one, other), one is other)


if __name__ == "__main__":
    unittest.main()
