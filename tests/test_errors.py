import unittest

from halftruths import errors
from tests.helpers import check_raises

WITH_ONE = {
    "UnknownName": "name", "TooMany": "what", "TooGreat": "what", "OutOfRange": "value", "WrongMark": "mark",
    "WrongSize": "size", "NotAFunction": "place", "NoEdge": "edge", "BadText": "place", "NameTaken": "name",
}
WITHOUT = ("NothingToUndo", "NothingToRedo")


class Errors(unittest.TestCase):
    def test_base_classes(self):
        self.assertEqual(errors.HalfError.__bases__, (ValueError,))
        for name in list(WITH_ONE) + list(WITHOUT):
            self.assertEqual(getattr(errors, name).__bases__, (errors.HalfError,), name)

    def test_attributes(self):
        for name, attribute in WITH_ONE.items():
            for value in ("x", (10 ** 5000, 1), 7, ((1, 2), (3, 4))):
                error = getattr(errors, name)(value)
                self.assertEqual(getattr(error, attribute), value)
                self.assertIsInstance(str(error), str)

    def test_without_arguments(self):
        for name in WITHOUT:
            kind = getattr(errors, name)

            def fail():
                raise kind()
            check_raises(self, kind, {}, fail)

    def test_none_stands_under_another_one(self):
        kinds = [getattr(errors, name) for name in list(WITH_ONE) + list(WITHOUT)]
        for kind in kinds:
            for other in kinds:
                self.assertEqual(issubclass(kind, other), kind is other)
