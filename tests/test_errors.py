"""Point 0.2 and the interface of errors.py: the classes of errors."""

import unittest

from foldandbound import errors
from tests.support import ShopCase

NAMES = """BadFold TooMany Crossed TooThick NoPage OddSheet BadStep NoBook NoStep NoFace BadTree NoCounts
    NoWeights NoThing BadLine BadText BadStock BadWord BadJob BadPlate BadFlow Full Unknown InUse Taken
    Short BadCourse NothingToUndo BadHandling""".split()


class TestErrors(ShopCase):
    def test_the_base_class_is_directly_below_value_error(self):
        self.assertEqual(errors.ShopError.__bases__, (ValueError,))

    def test_each_class_is_directly_below_the_base_class(self):
        for name in NAMES:
            self.assertEqual(getattr(errors, name).__bases__, (errors.ShopError,), name)

    def test_the_classes_are_different_and_defined_there(self):
        classes = [getattr(errors, name) for name in NAMES + ["ShopError"]]
        self.assertEqual(len(set(classes)), len(NAMES) + 1)
        for found in classes:
            self.assertEqual(found.__module__, "foldandbound.errors")

    def test_fields(self):
        crossed = errors.Crossed(3, 8)
        self.same((crossed.first, crossed.second), (3, 8))
        self.same(errors.BadStep(7).step, 7)
        self.same(errors.BadLine(9).line, 9)

    def test_they_can_be_caught_as_shop_errors(self):
        for made in (errors.Crossed(0, 2), errors.BadStep(0), errors.BadLine(0), errors.BadFold()):
            with self.assertRaises(errors.ShopError):
                raise made


if __name__ == "__main__":
    unittest.main()
