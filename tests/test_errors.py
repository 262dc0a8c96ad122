"""Section 15: all errors of the document, and what they keep."""

import unittest

from refusals import same, values_of_all_kinds

from worneven import errors
from worneven.chips import Chip
from worneven.errors import BadPath, FlashError

NAMES = """
BadSize BadFaults BadPlace BadCells NotEmpty Cut BadBlock BadFade BadText BadKey BadChanges BadSheet BadPlaces
NoGround Full BadNumber BadImage BadName BadPart BadNode BadValue BadItems BadTree BadPath NoPath NotFolder There
IsFolder BadSpan OverQuota Within NotEmptyFolder BadQuota BadDeeds BadLine BadScript BadPattern BadLines
NothingToUndo NothingToRedo BadJournal
""".split()


class Errors(unittest.TestCase):
    def test_flash_error_is_directly_below_value_error(self):
        self.assertEqual(FlashError.__bases__, (ValueError,))

    def test_all_others_are_directly_below_flash_error(self):
        self.assertEqual(len(set(NAMES)), 41)
        for name in NAMES:
            self.assertEqual(getattr(errors, name).__bases__, (FlashError,), name)
            self.assertEqual(getattr(errors, name).__name__, name)

    def test_they_are_unlike_classes(self):
        self.assertEqual(len({getattr(errors, name) for name in NAMES}), 41)
        with self.assertRaises(errors.NoPath):
            raise errors.NoPath("/a")
        self.assertFalse(isinstance(errors.NoPath("/a"), BadPath))

    def test_each_keeps_any_value(self):
        for name in NAMES + ["FlashError"]:
            made = getattr(errors, name)
            for value in values_of_all_kinds() + [0, 1, "", "text", ("/", 1), errors.Cut(None)]:
                error = made(value)
                self.assertIs(error.value, value)
                self.assertTrue(same(error.value, value))

    def test_they_can_be_raised_and_caught_as_value_errors(self):
        for name in NAMES + ["FlashError"]:
            with self.assertRaises(ValueError) as caught:
                raise getattr(errors, name)([1, None])
            self.assertEqual(caught.exception.value, [1, None])

    def test_what_a_chip_raises_keeps_its_value_itself(self):
        value = [1]
        with self.assertRaises(errors.BadPlace) as caught:
            Chip(4, 4).read(value)
        self.assertEqual(caught.exception.value, [1])
        self.assertEqual(value, [1])


if __name__ == "__main__":
    unittest.main()
