"""[11]: the error classes."""

import unittest

from heldthrough import errors
from heldthrough.errors import HeldError
from tests.values import ANY_VALUES

FIELDS = {
    "Clash": "groups", "NoCommand": "line", "NoName": "name", "NoStand": "paper", "NoText": "line",
    "NoVersion": "index", "NotGood": "rule", "NotInside": None, "Nothing": None, "TooMany": "most", "Wrong": "place",
}
CLASSES = {name: getattr(errors, name) for name in FIELDS}


def made(name, thing):
    """Return an error of this class, made of a value if it takes one."""
    return CLASSES[name]() if FIELDS[name] is None else CLASSES[name](thing)


class Errors(unittest.TestCase):
    def test_bases(self):
        self.assertTrue(issubclass(HeldError, ValueError))
        for name, kind in CLASSES.items():
            with self.subTest(name=name):
                self.assertTrue(issubclass(kind, HeldError))
                self.assertEqual(kind.__module__, "heldthrough.errors")
                others = [other for other in CLASSES.values() if other is not kind]
                self.assertFalse(any(issubclass(kind, other) for other in others))

    def test_no_other_classes(self):
        found = {name for name, thing in vars(errors).items() if isinstance(thing, type)}
        self.assertEqual(found, set(FIELDS) | {"HeldError"})

    def test_fields_are_the_very_objects(self):
        for name, field in FIELDS.items():
            for thing in [*ANY_VALUES, object()]:
                error = made(name, thing)
                if field is not None:
                    self.assertIs(getattr(error, field), thing)

    def test_held_error_is_made_as_a_value_error(self):
        self.assertIsInstance(HeldError(), ValueError)
        self.assertEqual(HeldError("why").args, ("why",))

    def test_caught(self):
        for name, kind in CLASSES.items():
            for caught in (kind, HeldError, ValueError):
                with self.subTest(name=name, caught=caught):
                    with self.assertRaises(caught) as context:
                        raise made(name, (1, 2))
                    self.assertIs(type(context.exception), kind)

    def test_not_caught_as_another(self):
        for name, kind in CLASSES.items():
            for other in CLASSES.values():
                if other is not kind:
                    self.assertNotIsInstance(made(name, 0), other)


if __name__ == "__main__":
    unittest.main()
