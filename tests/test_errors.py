"""Each error class, the class under which it stands, and its fields."""

import unittest

from osier import errors

# class: (the class it stands under, its field or None)
TOLD = {
    "OsierError": (ValueError, None),
    "BadName": ("OsierError", "name"),
    "BadWeb": ("OsierError", "place"),
    "BadText": ("OsierError", None),
    "BadPoints": ("OsierError", "name"),
    "BadRule": ("OsierError", "number"),
    "Groundless": ("OsierError", "name"),
    "BadItem": ("OsierError", "place"),
    "BadRow": ("OsierError", "number"),
    "BadLoftName": ("OsierError", "name"),
    "BadPage": ("OsierError", "line"),
    "Shut": ("OsierError", "point"),
    "Full": ("OsierError", None),
    "Missing": (LookupError, None),
    "NoName": ("Missing", "name"),
    "NoShape": ("Missing", "name"),
    "NoRow": ("Missing", "number"),
    "NoProgram": ("Missing", "name"),
    "NoNumber": ("Missing", "number"),
    "Taken": (KeyError, "name"),
    "Nothing": (IndexError, None),
}


def own_classes():
    return {name: thing for name, thing in vars(errors).items() if isinstance(thing, type)}


class Errors(unittest.TestCase):
    def test_just_the_told_classes(self):
        self.assertEqual(set(own_classes()), set(TOLD))

    def test_defined_in_this_file(self):
        for name, kind in own_classes().items():
            self.assertEqual((kind.__module__, kind.__name__), ("osier.errors", name))

    def test_each_stands_under_its_class_alone(self):
        for name, (above, _) in TOLD.items():
            wanted = getattr(errors, above) if isinstance(above, str) else above
            self.assertEqual(getattr(errors, name).__bases__, (wanted,), name)

    def test_none_under_another(self):
        classes = own_classes()
        for name, kind in classes.items():
            under = {other for other in classes if other != name and issubclass(kind, classes[other])}
            above = TOLD[name][0]
            self.assertEqual(under, {above} if isinstance(above, str) else set(), name)

    def test_fields(self):
        for name, (_, field) in TOLD.items():
            kind = getattr(errors, name)
            if field is None:
                self.assertEqual(vars(kind()), {}, name)
                continue
            for worth in ("odd", 7, -1, None):
                self.assertEqual(vars(kind(worth)), {field: worth}, name)
                self.assertEqual(getattr(kind(**{field: worth}), field), worth, name)
            with self.assertRaises(TypeError):
                kind()

    def test_caught_by_the_class_above(self):
        with self.assertRaises(ValueError):
            raise errors.BadWeb(None)
        with self.assertRaises(errors.OsierError):
            raise errors.Shut(3)
        with self.assertRaises(LookupError):
            raise errors.NoName("x")
        with self.assertRaises(KeyError):
            raise errors.Taken("x")
        with self.assertRaises(IndexError):
            raise errors.Nothing()


if __name__ == "__main__":
    unittest.main()
