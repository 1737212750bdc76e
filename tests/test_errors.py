"""Tests of likeholes/errors.py: the error classes of point 2 and the interface."""

import unittest

from likeholes import errors
from tests.values import values_of_every_sort

PLAIN = [
    "InvalidIndex", "InvalidPins", "InvalidPlacements", "NotPinned", "NothingToUndo",
    "PlacementNotMet", "UnknownItem", "UnknownSlot",
]
WITH_ATTRIBUTE = {
    "InvalidArrangement": "reason",
    "InvalidInventory": "reason",
    "InvalidMove": "reason",
    "InvalidMoves": "reason",
    "PinnedSlot": "slot",
}
ALL = ["LikeholesError"] + PLAIN + list(WITH_ATTRIBUTE)

REASONS = [
    ("inventory",), ("item", 3), ("missing", "a"), ("move", 2, ("kinds",)), ("", 0), ("a", 1),
]


class ErrorClassesTest(unittest.TestCase):

    def check_classes(self, name, error):
        own = [other for other in ALL if isinstance(error, getattr(errors, other))]
        self.assertEqual(sorted(own), sorted({name, "LikeholesError"}))
        self.assertIs(type(error), getattr(errors, name))
        self.assertIsInstance(error, ValueError)

    def test_all_classes_exist_and_no_others(self):
        found = [name for name, entry in vars(errors).items() if isinstance(entry, type)]
        self.assertEqual(sorted(found), sorted(ALL))
        self.assertEqual(len(ALL), 14)

    def test_classes_derive_directly(self):
        self.assertEqual(errors.LikeholesError.__bases__, (ValueError,))
        for name in PLAIN + list(WITH_ATTRIBUTE):
            self.assertEqual(getattr(errors, name).__bases__, (errors.LikeholesError,), name)

    def test_classes_are_defined_in_this_file(self):
        for name in ALL:
            self.assertEqual(getattr(errors, name).__module__, "likeholes.errors")
            self.assertEqual(getattr(errors, name).__name__, name)

    def test_plain_errors_without_an_argument(self):
        for name in ["LikeholesError"] + PLAIN:
            error = getattr(errors, name)()
            self.check_classes(name, error)
            self.assertEqual(str(error), "")

    def test_plain_errors_with_a_string(self):
        for name in ["LikeholesError"] + PLAIN:
            for text in ("", "a", "some words"):
                error = getattr(errors, name)(text)
                self.check_classes(name, error)
                self.assertEqual(str(error), text)

    def test_attribute_is_the_object_passed_by_position(self):
        for name, attribute in WITH_ATTRIBUTE.items():
            for value in REASONS + values_of_every_sort():
                error = getattr(errors, name)(value)
                self.check_classes(name, error)
                self.assertIs(getattr(error, attribute), value)

    def test_attribute_is_the_object_passed_by_keyword(self):
        for name, attribute in WITH_ATTRIBUTE.items():
            for value in REASONS + values_of_every_sort():
                error = getattr(errors, name)(**{attribute: value})
                self.check_classes(name, error)
                self.assertIs(getattr(error, attribute), value)

    def test_attribute_follows_a_changed_argument(self):
        for name, attribute in WITH_ATTRIBUTE.items():
            value = ["a"]
            error = getattr(errors, name)(value)
            value.append("b")
            self.assertEqual(getattr(error, attribute), ["a", "b"])

    def test_errors_are_caught_by_name(self):
        for name in ALL:
            error = getattr(errors, name)("text")
            for caught in {getattr(errors, name), errors.LikeholesError, ValueError}:
                with self.assertRaises(caught) as raised:
                    raise error
                self.assertIs(raised.exception, error)


if __name__ == "__main__":
    unittest.main()
