"""Sections 2 and 4: what a chip refuses, in which sequence, with which value, and that this changes nothing."""

import unittest

from refusals import assert_refused, assert_unchanged_by_refusal, nested, values_of_all_kinds

from worneven.chips import Chip
from worneven.errors import BadBlock, BadCells, BadFade, BadFaults, BadPlace, BadSize, Cut, NotEmpty

EMPTY = "f" * 256
PAGE = "0123456789abcdef" * 16
NO_INTEGERS = values_of_all_kinds() + ["4", "", "a"]
NO_CELLS = values_of_all_kinds() + [
    0, 255, "", "f", "f" * 255, "f" * 257, "f" * 512, "F" * 256, "g" * 256, " " * 256, "f" * 255 + "\n",
    "f" * 255 + "g", "/" + "0" * 255, "0" * 128 + ":" + "0" * 127, "0" * 255 + "`", "f" * 255 + "A", PAGE.upper(),
]


def used_chip():
    """A chip with two whole pages, a torn one, and faults that are to come."""
    chip = Chip(4, 4, ((3, "bad", "0f"), (5, "cut", "8"), (6, "bad", "f")))
    chip.write(0, PAGE)
    chip.write(15, PAGE)
    chip.write(5, PAGE)
    chip.erase(2)
    return chip


class Sizes(unittest.TestCase):
    def test_how_many_blocks(self):
        for blocks in (4, 5, 63, 64):
            self.assertEqual(Chip(blocks, 4).blocks, blocks)
        for blocks in [3, 65, 0, -1, -4, 100, 10 ** 11] + NO_INTEGERS:
            assert_refused(self, BadSize, blocks, Chip, blocks, 4)

    def test_how_many_pages(self):
        for pages in (4, 5, 15, 16):
            self.assertEqual(Chip(4, pages).pages, pages)
        for pages in [3, 17, 0, -1, -4, 64, 10 ** 11] + NO_INTEGERS:
            assert_refused(self, BadSize, pages, Chip, 4, pages)

    def test_several_wrong_at_once(self):
        assert_refused(self, BadSize, 3, Chip, 3, 17, [])
        assert_refused(self, BadSize, True, Chip, True, False, None)
        assert_refused(self, BadSize, 65, Chip, 65, 16, None)
        assert_refused(self, BadSize, 17, Chip, 64, 17, None)
        assert_refused(self, BadSize, None, Chip, 64, None, ((0, "cut", "f"),))
        assert_refused(self, BadFaults, [], Chip, 64, 16, [])


class Faults(unittest.TestCase):
    def test_faults_that_can_be_told(self):
        for faults in (
            (), ((1, "cut", "0"),), ((1, "bad", "f"),), ((1, "cut", "f" * 256),), ((10 ** 11, "bad", PAGE),),
            ((1, "cut", "0123456789abcdef"), (2, "cut", "0"), (3, "bad", "0"), (99, "cut", "0f" * 100)),
        ):
            self.assertEqual(Chip(4, 4, faults).image(), (EMPTY,) * 16)

    def test_what_is_no_tuple_of_faults(self):
        others = [value for value in NO_INTEGERS if value != ()]
        for faults in others + [1, "cut", (1, "cut", "f"), [(1, "cut", "f")], (((1, "cut", "f"),),), nested(3)]:
            assert_refused(self, BadFaults, faults, Chip, 4, 4, faults)

    def test_rows_of_another_form(self):
        for row in (
            (), (1,), (1, "cut"), (1, "cut", "f", "f"), [1, "cut", "f"], "cut", None, 1, {1: "cut"},
            ("cut", 1, "f"), (1, "f", "cut"), ((1, "cut", "f"),), Chip(4, 4), "cut",
        ):
            for faults in ((row,), ((1, "cut", "f"), row), (row, (9, "cut", "f"))):
                assert_refused(self, BadFaults, faults, Chip, 4, 4, faults)

    def test_numbers_of_deeds(self):
        for at in [0, -1, -10] + NO_INTEGERS:
            faults = ((at, "cut", "f"),)
            assert_refused(self, BadFaults, faults, Chip, 4, 4, faults)
            later = ((1, "cut", "f"), (at, "cut", "f"))
            assert_refused(self, BadFaults, later, Chip, 4, 4, later)

    def test_numbers_of_deeds_ascend_and_are_unlike(self):
        for numbers in ((1, 1), (2, 1), (1, 2, 2), (1, 3, 2), (2, 3, 1), (5, 5, 6), (1, 2, 3, 4, 3)):
            faults = tuple((at, "bad" if at % 2 else "cut", "f") for at in numbers)
            assert_refused(self, BadFaults, faults, Chip, 4, 4, faults)
        unlike_but_for_the_number = ((1, "cut", "f"), (1, "bad", "0"))
        assert_refused(self, BadFaults, unlike_but_for_the_number, Chip, 4, 4, unlike_but_for_the_number)

    def test_words(self):
        for word in ["", "c", "cu", "cuts", "Cut", "CUT", "bad ", "badcut", 0, 1] + values_of_all_kinds():
            faults = ((1, word, "f"),)
            assert_refused(self, BadFaults, faults, Chip, 4, 4, faults)

    def test_patterns(self):
        for pattern in ["", "g", "F", "0 f", "0f\n", "f" * 257, "f" * 512, "0" * 255 + "g", 0, 8] + values_of_all_kinds():
            faults = ((1, "cut", "f"), (2, "bad", pattern))
            assert_refused(self, BadFaults, faults, Chip, 4, 4, faults)


class Deeds(unittest.TestCase):
    def wrong_places(self, chip):
        return [-1, -16, chip.blocks * chip.pages, chip.blocks * chip.pages + 1, 10 ** 11] + NO_INTEGERS

    def test_places(self):
        for chip in (used_chip(), Chip(64, 16), Chip(5, 7)):
            last = chip.blocks * chip.pages - 1
            self.assertEqual((len(chip.read(0)), len(chip.read(last))), (256, 256))
            for place in self.wrong_places(chip):
                assert_unchanged_by_refusal(self, chip, BadPlace, place, chip.read, place)
                assert_unchanged_by_refusal(self, chip, BadPlace, place, chip.write, place, PAGE)
                assert_unchanged_by_refusal(self, chip, BadPlace, place, chip.fade, place, 1, "0")

    def test_the_last_place_is_written(self):
        for blocks, pages in ((4, 4), (64, 16), (5, 7)):
            chip = Chip(blocks, pages)
            self.assertIs(chip.write(blocks * pages - 1, PAGE), True)
            self.assertEqual(chip.image()[-1], PAGE)

    def test_blocks(self):
        for chip in (used_chip(), Chip(64, 4), Chip(5, 7)):
            for block in [-1, chip.blocks, chip.blocks + 1, -chip.blocks, 10 ** 11] + NO_INTEGERS:
                assert_unchanged_by_refusal(self, chip, BadBlock, block, chip.erase, block)
        chip = Chip(5, 7)
        self.assertEqual([chip.erase(4), chip.erase(0), chip.wear], [True, True, (1, 0, 0, 0, 1)])

    def test_cells(self):
        chip = used_chip()
        for cells in NO_CELLS:
            for place in (0, 1, 5, 6):
                assert_unchanged_by_refusal(self, chip, BadCells, cells, chip.write, place, cells)

    def test_cells_that_may_fall(self):
        chip = used_chip()
        for cell in [-1, 256, 257, -256, 10 ** 11] + NO_INTEGERS:
            assert_unchanged_by_refusal(self, chip, BadFade, (cell, "0"), chip.fade, 0, cell, "0")
        self.assertIsNone(chip.fade(0, 255, "0"))

    def test_signs_to_which_a_cell_may_fall(self):
        chip = used_chip()
        others = ["", "00", "01", "0123", "g", "F", "A", " ", "/", "\n", "!", "0" * 256, 0, 1, -1]
        for sign in others + values_of_all_kinds():
            assert_unchanged_by_refusal(self, chip, BadFade, (15, sign), chip.fade, 0, 15, sign)
        for sign in "3456789abcdef":
            assert_unchanged_by_refusal(self, chip, BadFade, (3, sign), chip.fade, 0, 3, sign)
        self.assertIsNone(chip.fade(0, 3, "2"))

    def test_without_current_the_same_is_refused(self):
        chip = used_chip()
        with self.assertRaises(Cut):
            chip.erase(3)
        for place in self.wrong_places(chip):
            assert_unchanged_by_refusal(self, chip, BadPlace, place, chip.read, place)
            assert_unchanged_by_refusal(self, chip, BadPlace, place, chip.write, place, PAGE)
        assert_unchanged_by_refusal(self, chip, BadBlock, 4, chip.erase, 4)
        assert_unchanged_by_refusal(self, chip, BadBlock, True, chip.erase, True)
        assert_unchanged_by_refusal(self, chip, BadCells, EMPTY + "f", chip.write, 1, EMPTY + "f")
        assert_unchanged_by_refusal(self, chip, NotEmpty, 0, chip.write, 0, EMPTY)
        assert_unchanged_by_refusal(self, chip, Cut, None, chip.write, 1, EMPTY)
        assert_unchanged_by_refusal(self, chip, Cut, None, chip.erase, 0)
        self.assertEqual(chip.read(0), PAGE)

    def test_several_wrong_at_once(self):
        chip = used_chip()
        assert_unchanged_by_refusal(self, chip, BadPlace, 16, chip.write, 16, "f")
        assert_unchanged_by_refusal(self, chip, BadPlace, None, chip.write, None, None)
        assert_unchanged_by_refusal(self, chip, BadCells, "f", chip.write, 0, "f")
        assert_unchanged_by_refusal(self, chip, BadCells, [PAGE], chip.write, 5, [PAGE])
        assert_unchanged_by_refusal(self, chip, NotEmpty, 5, chip.write, 5, PAGE)
        assert_unchanged_by_refusal(self, chip, BadPlace, -1, chip.fade, -1, 256, "g")
        assert_unchanged_by_refusal(self, chip, BadFade, (256, "g"), chip.fade, 0, 256, "g")
        assert_unchanged_by_refusal(self, chip, BadFade, (None, [1]), chip.fade, 1, None, [1])
        assert_unchanged_by_refusal(self, chip, BadFade, (True, "0"), chip.fade, 5, True, "0")

    def test_true_is_no_integer_and_no_place(self):
        chip = used_chip()
        for value in (True, False):
            assert_unchanged_by_refusal(self, chip, BadPlace, value, chip.read, value)
            assert_unchanged_by_refusal(self, chip, BadBlock, value, chip.erase, value)
            assert_unchanged_by_refusal(self, chip, BadFade, (value, "0"), chip.fade, 15, value, "0")

    def test_what_was_refused_does_not_keep_the_chip_from_going_on(self):
        chip, twin = used_chip(), used_chip()
        for place in self.wrong_places(chip):
            assert_refused(self, BadPlace, place, chip.write, place, PAGE)
        for one in (chip, twin):
            with self.assertRaises(Cut):
                one.write(1, PAGE)
            one.again()
            self.assertIs(one.erase(0), False)
        self.assertEqual(chip, twin)
        self.assertEqual((chip.bad, chip.done), ((0, 1), 6))


if __name__ == "__main__":
    unittest.main()
