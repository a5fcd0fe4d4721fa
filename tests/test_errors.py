import unittest

from calm import errors

FIELDS = {
    "NoText": ("row", 7),
    "NoName": ("name", "x"),
    "Twice": ("name", "y"),
    "TooMany": ("most", 24),
    "NoStep": ("place", 0),
    "NoLock": ("step", 3),
}


class Refusals(unittest.TestCase):
    def test_each_is_a_calm_error_and_a_value_error(self):
        self.assertTrue(issubclass(errors.CalmError, ValueError))
        for name in FIELDS:
            self.assertTrue(issubclass(getattr(errors, name), errors.CalmError), name)

    def test_none_stands_under_another(self):
        for one in FIELDS:
            for other in FIELDS:
                if one != other:
                    self.assertFalse(issubclass(getattr(errors, one), getattr(errors, other)))

    def test_each_holds_its_field(self):
        for name, (field, held) in FIELDS.items():
            made = getattr(errors, name)(held)
            self.assertEqual(getattr(made, field), held)

    def test_each_is_made_with_one_argument(self):
        for name in FIELDS:
            kind = getattr(errors, name)
            self.assertRaises(TypeError, kind)
            self.assertRaises(TypeError, kind, 1, 2)

    def test_each_is_raised_and_taken(self):
        for name, (field, held) in FIELDS.items():
            with self.assertRaises(ValueError) as taken:
                raise getattr(errors, name)(held)
            self.assertEqual(getattr(taken.exception, field), held)
