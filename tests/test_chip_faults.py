"""Section 4: faults, torn writes and erases, bad blocks, and deeds without current."""

import unittest

from refusals import assert_unchanged_by_refusal, same

from worneven.chips import Chip
from worneven.errors import BadCells, BadFade, BadPlace, Cut, NotEmpty

EMPTY = "f" * 256
NONE = "0" * 256
PAGE = "0123456789abcdef" * 16
OTHER = "fedcba9876543210" * 16
PATTERNS = (
    "0", "f", "8", "0f", "f0", "0f8", "123456789abcdef", "0123456789abcdef0", "a" * 255 + "1", "0" * 255 + "f",
    "08f" * 85 + "3", "f" + "0" * 255, OTHER, ("5" * 64 + "a" * 64) * 2,
)


def greater(cells, pattern):
    """Each cell as the greater one of both, by the worth of the signs."""
    told = []
    for at in range(256):
        told.append(f"{max(int(cells[at], 16), int(pattern[at % len(pattern)], 16)):x}")
    return "".join(told)


def cut(test, deed, *arguments):
    with test.assertRaises(Cut) as caught:
        deed(*arguments)
    test.assertIsNone(caught.exception.value)


class TornWrites(unittest.TestCase):
    def test_a_write_torn_by_a_cut(self):
        for pattern in PATTERNS:
            for cells in (PAGE, OTHER, NONE, EMPTY):
                chip = Chip(4, 4, ((1, "cut", pattern),))
                cut(self, chip.write, 9, cells)
                self.assertEqual(chip.read(9), greater(cells, pattern))
                self.assertEqual((chip.done, chip.cuts, chip.bad, chip.is_on), (1, 1, (), False))
                self.assertEqual((chip.wear, chip.image().count(EMPTY) >= 15), ((0, 0, 0, 0), True))

    def test_a_write_torn_by_a_block_that_goes_bad(self):
        for pattern in PATTERNS:
            for cells in (PAGE, OTHER, NONE, EMPTY):
                chip = Chip(4, 4, ((1, "bad", pattern),))
                self.assertIs(chip.write(9, cells), False)
                self.assertEqual(chip.read(9), greater(cells, pattern))
                self.assertEqual((chip.done, chip.cuts, chip.bad, chip.is_on), (1, 0, (2,), True))
                self.assertEqual((chip.wear, chip.image().count(EMPTY) >= 15), ((0, 0, 0, 0), True))

    def test_a_page_left_torn_is_not_written_until_its_block_is_erased(self):
        chip = Chip(4, 4, ((1, "cut", "0f"),))
        cut(self, chip.write, 0, PAGE)
        chip.again()
        assert_unchanged_by_refusal(self, chip, NotEmpty, 0, chip.write, 0, PAGE)
        self.assertEqual([chip.erase(0), chip.write(0, PAGE), chip.read(0) == PAGE], [True, True, True])

    def test_a_page_left_empty_by_a_torn_write_may_be_written_again(self):
        chip = Chip(4, 4, ((1, "cut", "f"), (3, "cut", "f")))
        cut(self, chip.write, 0, PAGE)
        self.assertEqual(chip.read(0), EMPTY)
        chip.again()
        self.assertIs(chip.write(0, OTHER), True)
        self.assertEqual(chip.read(0), OTHER)
        self.assertIsNone(chip.fade(0, 0, "0"))

    def test_a_page_left_empty_by_a_torn_erase_may_be_written_again(self):
        chip = Chip(4, 4, ((3, "cut", "f" * 128 + "0" * 128),))
        chip.write(4, "0" * 128 + "f" * 128)
        chip.write(5, "f" * 128 + "0" * 128)
        cut(self, chip.erase, 1)
        self.assertEqual((chip.read(4), chip.read(5)), (EMPTY, "f" * 128 + "0" * 128))
        chip.again()
        self.assertIs(chip.write(4, OTHER), True)
        assert_unchanged_by_refusal(self, chip, NotEmpty, 5, chip.write, 5, OTHER)
        self.assertIsNone(chip.fade(4, 0, "0"))


class TornErases(unittest.TestCase):
    def filled(self, faults):
        chip = Chip(4, 4, faults)
        for place, cells in ((3, OTHER), (4, PAGE), (5, OTHER), (6, NONE), (8, NONE)):
            self.assertIs(chip.write(place, cells), True)
        return chip

    def test_an_erase_torn_by_a_cut(self):
        for pattern in PATTERNS:
            chip = self.filled(((6, "cut", pattern),))
            cut(self, chip.erase, 1)
            told = tuple(greater(cells, pattern) for cells in (PAGE, OTHER, NONE))
            self.assertEqual(chip.image(), (EMPTY,) * 3 + (OTHER,) + told + (EMPTY, NONE) + (EMPTY,) * 7)
            self.assertEqual((chip.done, chip.cuts, chip.bad, chip.is_on), (6, 1, (), False))
            self.assertEqual(chip.wear, (0, 1, 0, 0))

    def test_an_erase_torn_by_a_block_that_goes_bad(self):
        for pattern in PATTERNS:
            chip = self.filled(((6, "bad", pattern),))
            self.assertIs(chip.erase(1), False)
            told = tuple(greater(cells, pattern) for cells in (PAGE, OTHER, NONE))
            self.assertEqual(chip.image(), (EMPTY,) * 3 + (OTHER,) + told + (EMPTY, NONE) + (EMPTY,) * 7)
            self.assertEqual((chip.done, chip.cuts, chip.bad, chip.is_on), (6, 0, (1,), True))
            self.assertEqual(chip.wear, (0, 1, 0, 0))

    def test_a_torn_erase_lifts_a_cell_that_fell(self):
        chip = self.filled(((6, "cut", "8"),))
        chip.fade(4, 255, "0")
        cut(self, chip.erase, 1)
        self.assertEqual(chip.read(4), greater(PAGE[:255] + "0", "8"))

    def test_torn_erases_behind_one_another(self):
        chip = self.filled(((6, "cut", "3f"), (7, "cut", "f3"), (8, "cut", "0")))
        cut(self, chip.erase, 1)
        chip.again()
        cut(self, chip.erase, 1)
        self.assertEqual([chip.read(place) for place in (4, 5, 6)], [EMPTY] * 3)
        chip.again()
        cut(self, chip.erase, 3)
        self.assertEqual((chip.wear, chip.cuts, chip.done), ((0, 2, 0, 1), 3, 8))


class BadBlocks(unittest.TestCase):
    def bad_chip(self, *faults):
        chip = Chip(4, 4, ((2, "bad", "0f"),) + faults)
        self.assertIs(chip.write(4, PAGE), True)
        self.assertIs(chip.write(5, OTHER), False)
        return chip

    def test_a_bad_block_is_read_but_never_more_written_or_erased(self):
        chip = self.bad_chip()
        image = chip.image()
        self.assertIs(chip.write(6, PAGE), False)
        self.assertIs(chip.write(7, EMPTY), False)
        self.assertIs(chip.erase(1), False)
        self.assertIs(chip.erase(1), False)
        self.assertEqual((chip.image(), chip.wear, chip.bad, chip.done), (image, (0, 0, 0, 0), (1,), 6))
        self.assertEqual((chip.read(4), chip.read(5)[:4]), (PAGE, "ffdf"))
        assert_unchanged_by_refusal(self, chip, NotEmpty, 4, chip.write, 4, PAGE)
        self.assertIs(chip.write(8, PAGE), True)
        self.assertEqual((chip.read(8), chip.bad), (PAGE, (1,)))

    def test_a_fault_bad_on_a_bad_block_tears_nothing(self):
        chip = self.bad_chip((3, "bad", "8"), (4, "bad", "f"))
        image = chip.image()
        self.assertIs(chip.write(6, PAGE), False)
        self.assertIs(chip.erase(1), False)
        self.assertEqual((chip.image(), chip.wear, chip.bad, chip.done), (image, (0, 0, 0, 0), (1,), 4))
        self.assertEqual((chip.cuts, chip.is_on), (0, True))

    def test_a_cut_on_a_bad_block_cuts_and_tears_nothing(self):
        for deed, arguments in (("write", (6, PAGE)), ("erase", (1,))):
            chip = self.bad_chip((3, "cut", "8"))
            image = chip.image()
            cut(self, getattr(chip, deed), *arguments)
            self.assertEqual((chip.image(), chip.wear, chip.bad, chip.done), (image, (0, 0, 0, 0), (1,), 3))
            self.assertEqual((chip.cuts, chip.is_on), (1, False))
            self.assertIsNone(chip.fade(4, 1, "0"))

    def test_all_blocks_may_go_bad(self):
        chip = Chip(4, 4, ((1, "bad", "f"), (2, "bad", "0"), (3, "bad", "f"), (4, "bad", "0")))
        self.assertEqual([chip.write(12, PAGE), chip.bad], [False, (3,)])
        self.assertEqual([chip.erase(0), chip.bad], [False, (0, 3)])
        self.assertEqual([chip.write(11, PAGE), chip.bad], [False, (0, 2, 3)])
        self.assertEqual([chip.write(4, PAGE), chip.bad], [False, (0, 1, 2, 3)])
        self.assertEqual((chip.wear, chip.read(4), chip.read(11)), ((1, 0, 0, 0), PAGE, EMPTY))
        self.assertEqual([chip.erase(block) for block in range(4)], [False] * 4)
        self.assertEqual((chip.wear, chip.done), ((1, 0, 0, 0), 8))

    def test_wear_counts_erases_that_went_bad_before_the_block_was(self):
        chip = Chip(4, 4, ((2, "bad", "f"),))
        self.assertEqual([chip.erase(2), chip.erase(2), chip.erase(2)], [True, False, False])
        self.assertEqual((chip.wear, chip.bad, chip.done), ((0, 0, 2, 0), (2,), 3))


class Cuts(unittest.TestCase):
    def test_nothing_is_done_without_current(self):
        chip = Chip(4, 4, ((2, "cut", "f"), (4, "bad", "0")))
        chip.write(0, PAGE)
        cut(self, chip.erase, 2)
        for lap in range(3):
            assert_unchanged_by_refusal(self, chip, Cut, None, chip.write, 1, PAGE)
            assert_unchanged_by_refusal(self, chip, Cut, None, chip.erase, 0)
        self.assertEqual((chip.done, chip.cuts, chip.wear, chip.read(0)), (2, 1, (0, 0, 1, 0), PAGE))
        self.assertIsNone(chip.again())
        self.assertIs(chip.is_on, True)
        self.assertIs(chip.write(1, PAGE), True)
        self.assertIs(chip.erase(3), False)
        self.assertEqual((chip.done, chip.bad, chip.cuts), (4, (3,), 1))

    def test_nothing_is_done_without_current_on_a_bad_block(self):
        chip = Chip(4, 4, ((1, "bad", "f"), (2, "cut", "f")))
        chip.write(0, PAGE)
        cut(self, chip.write, 4, PAGE)
        assert_unchanged_by_refusal(self, chip, Cut, None, chip.write, 1, PAGE)
        assert_unchanged_by_refusal(self, chip, Cut, None, chip.erase, 0)

    def test_what_else_is_due_comes_ahead_of_the_cut(self):
        chip = Chip(4, 4, ((2, "cut", "f"),))
        chip.write(0, PAGE)
        cut(self, chip.erase, 2)
        assert_unchanged_by_refusal(self, chip, NotEmpty, 0, chip.write, 0, OTHER)
        assert_unchanged_by_refusal(self, chip, BadCells, "f", chip.write, 0, "f")
        assert_unchanged_by_refusal(self, chip, BadPlace, 16, chip.write, 16, "f")

    def test_what_is_refused_is_no_deed_and_takes_no_fault(self):
        chip = Chip(4, 4, ((2, "cut", "f"),))
        chip.write(0, PAGE)
        assert_unchanged_by_refusal(self, chip, NotEmpty, 0, chip.write, 0, OTHER)
        chip.fade(0, 1, "0")
        cut(self, chip.write, 1, PAGE)

    def test_several_cuts(self):
        chip = Chip(4, 4, ((1, "cut", "f"), (2, "cut", "8f"), (3, "bad", "0"), (5, "cut", "0"), (1000, "cut", "f")))
        told = []
        for deed, arguments in (("write", (0, PAGE)), ("erase", (1,)), ("write", (8, OTHER)), ("erase", (2,))):
            try:
                told.append(getattr(chip, deed)(*arguments))
            except Cut:
                chip.again()
                told.append("cut")
        self.assertEqual((told, chip.cuts, chip.done), (["cut", "cut", False, False], 2, 4))
        cut(self, chip.write, 0, PAGE)
        self.assertEqual((chip.cuts, chip.done, chip.read(0), chip.wear), (3, 5, PAGE, (0, 1, 0, 0)))
        chip.again()
        for lap in range(994):
            self.assertIs(chip.erase(3), True)
        cut(self, chip.erase, 3)
        self.assertEqual((chip.cuts, chip.done, chip.wear), (4, 1000, (0, 1, 0, 995)))

    def test_a_cut_leaves_kinds_as_they_are(self):
        chip = Chip(4, 4, ((1, "cut", "f"),))
        self.assertTrue(same((chip.is_on, chip.cuts, chip.done), (True, 0, 0)))
        cut(self, chip.erase, 0)
        self.assertTrue(same((chip.is_on, chip.cuts, chip.done), (False, 1, 1)))


class InBrackets(unittest.TestCase):
    def test_what_stands_behind_the_examples_of_section_4(self):
        chip = Chip(4, 4, ((2, "bad", "0f"), (7, "bad", "8")))
        chip.write(0, PAGE)
        chip.write(1, PAGE)
        self.assertEqual(chip.read(1), "".join(PAGE[at] if at % 2 == 0 else "f" for at in range(256)))
        chip.write(2, PAGE)
        chip.fade(0, 5, "2")
        assert_unchanged_by_refusal(self, chip, BadFade, (6, "1"), chip.fade, 0, 6, "1")
        assert_unchanged_by_refusal(self, chip, BadFade, (1, "0"), chip.fade, 1, 1, "0")
        first = Chip(4, 4, ((1, "cut", "f"),))
        cut(self, first.write, 0, PAGE)
        self.assertEqual(first.image(), (EMPTY,) * 16)


if __name__ == "__main__":
    unittest.main()
