"""Point 3: the error classes."""

import unittest

from branchorders import errors
from branchorders.errors import BranchError
from helpers import BranchTestCase

NAMES = (
    "InvalidWidth", "InvalidWords", "InvalidOutcome", "InvalidCondition", "InvalidRanking", "InvalidKnowledge",
    "InvalidProgram", "InvalidRow", "InvalidRegister", "InvalidQuery", "InvalidTable", "InvalidNumber", "UnlikeInputs",
    "NothingToUndo", "Unreadable",
)

VALUES = (0, -1, 10 ** 400, None, "", "x", (1, 2), ((0, 1), 3), ("end", "never"))


class ErrorsTest(BranchTestCase):

    def test_base(self):
        self.assertEqual(BranchError.__bases__, (ValueError,))
        self.assertEqual(BranchError.__name__, "BranchError")

    def test_direct_subclasses(self):
        for name in NAMES:
            kind = getattr(errors, name)
            self.assertEqual(kind.__name__, name)
            self.assertEqual(kind.__module__, "branchorders.errors")
            self.assertEqual(kind.__bases__, (BranchError,))

    def test_no_other_classes(self):
        found = [name for name, value in vars(errors).items() if isinstance(value, type)]
        self.assertEqual(sorted(found), sorted(NAMES + ("BranchError",)))

    def test_value_by_position_and_by_name(self):
        for name in NAMES:
            kind = getattr(errors, name)
            for value in VALUES:
                self.assert_same(kind(value).value, value)
                self.assert_same(kind(value=value).value, value)

    def test_value_is_of_each_object(self):
        for name in NAMES:
            kind = getattr(errors, name)
            first, second = kind(1), kind(2)
            self.assertEqual((first.value, second.value), (1, 2))

    def test_exactly_one_argument(self):
        for name in NAMES:
            kind = getattr(errors, name)
            with self.assertRaises(TypeError):
                kind()
            with self.assertRaises(TypeError):
                kind(1, 2)
            with self.assertRaises(TypeError):
                kind(number=1)

    def test_raised_and_caught(self):
        for name in NAMES:
            kind = getattr(errors, name)
            for base in (kind, BranchError, ValueError):
                with self.assertRaises(base) as caught:
                    raise kind("v")
                self.assertEqual(caught.exception.value, "v")

    def test_caught_by_no_other_class(self):
        for name in NAMES:
            for other in NAMES:
                if other != name:
                    self.assertNotIsInstance(getattr(errors, name)(0), getattr(errors, other))


if __name__ == "__main__":
    unittest.main()
