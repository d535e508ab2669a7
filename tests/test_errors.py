"""The errors, point [4]."""

import unittest

from slipsights import errors
from tests.samples import any_values

SIGHT_ERRORS = {
    "InvalidSite": "word", "InvalidRow": "word", "InvalidPlan": "word", "InvalidText": "at", "InvalidRun": "at",
    "InvalidSpan": "word", "InvalidCells": "at", "InvalidCommand": None, "Mismatch": "name", "Refused": "word",
}
OTHERS = {"NoRow": ("at", IndexError), "NoName": ("name", KeyError)}


class TestErrors(unittest.TestCase):
    def test_base_class(self):
        self.assertEqual(errors.SightError.__bases__, (ValueError,))

    def test_direct_subclasses(self):
        for name in SIGHT_ERRORS:
            with self.subTest(name):
                self.assertEqual(getattr(errors, name).__bases__, (errors.SightError,))
        found = {one.__name__ for one in errors.SightError.__subclasses__()}
        self.assertEqual(found, set(SIGHT_ERRORS))

    def test_the_two_that_are_no_sight_errors(self):
        for name, (_, base) in OTHERS.items():
            with self.subTest(name):
                self.assertEqual(getattr(errors, name).__bases__, (base,))
                self.assertFalse(issubclass(getattr(errors, name), ValueError))

    def test_none_is_derived_from_another(self):
        names = list(SIGHT_ERRORS) + list(OTHERS)
        for one in names:
            for other in names:
                if one != other:
                    self.assertFalse(issubclass(getattr(errors, one), getattr(errors, other)), (one, other))

    def attributes(self):
        for name, attribute in SIGHT_ERRORS.items():
            if attribute is not None:
                yield getattr(errors, name), attribute
        for name, (attribute, _) in OTHERS.items():
            yield getattr(errors, name), attribute

    def test_attribute_is_the_very_thing(self):
        for kind, attribute in self.attributes():
            for thing in any_values():
                self.assertIs(getattr(kind(thing), attribute), thing)
                self.assertIs(getattr(kind(**{attribute: thing}), attribute), thing)

    def test_attribute_changes_with_the_thing(self):
        for kind, attribute in self.attributes():
            thing = [1]
            error = kind(thing)
            thing.append([2])
            self.assertIs(getattr(error, attribute), thing)
            self.assertEqual(getattr(error, attribute), [1, [2]])

    def test_one_argument_is_asked(self):
        for kind, _ in self.attributes():
            with self.subTest(kind.__name__):
                self.assertRaises(TypeError, kind)
                self.assertRaises(TypeError, kind, 1, 2)

    def test_invalid_command_has_none(self):
        self.assertIsInstance(errors.InvalidCommand(), errors.SightError)
        self.assertRaises(TypeError, errors.InvalidCommand, 1)

    def test_raised_and_caught(self):
        with self.assertRaises(ValueError):
            raise errors.InvalidText(3)
        with self.assertRaises(IndexError):
            raise errors.NoRow(3)
        with self.assertRaises(KeyError):
            raise errors.NoName("hall")


if __name__ == "__main__":
    unittest.main()
