"""Section 4: chips without faults, images, fading and copies."""

import unittest

from refusals import assert_unchanged_by_refusal, seen

from worneven.chips import Chip
from worneven.errors import BadFade, Cut, NotEmpty

EMPTY = "f" * 256
PAGE = "0123456789abcdef" * 16
OTHER = "fedcba9876543210" * 16


class Deeds(unittest.TestCase):
    def test_a_new_chip_is_empty_and_has_current(self):
        for blocks, pages in ((4, 4), (4, 16), (64, 4), (64, 16), (5, 7)):
            chip = Chip(blocks, pages)
            self.assertEqual((chip.blocks, chip.pages, chip.wear), (blocks, pages, (0,) * blocks))
            self.assertEqual((chip.bad, chip.done, chip.cuts, chip.is_on), ((), 0, 0, True))
            self.assertEqual(chip.image(), (EMPTY,) * (blocks * pages))

    def test_deeds_one_behind_another(self):
        chip = Chip(4, 5)
        self.assertIs(chip.write(0, PAGE), True)
        self.assertIs(chip.write(4, OTHER), True)
        self.assertIs(chip.write(5, PAGE), True)
        self.assertIs(chip.write(19, OTHER), True)
        self.assertEqual((chip.done, chip.wear, chip.bad, chip.cuts, chip.is_on), (4, (0, 0, 0, 0), (), 0, True))
        self.assertEqual([chip.read(place) for place in (0, 4, 5, 19, 1)], [PAGE, OTHER, PAGE, OTHER, EMPTY])
        self.assertIs(chip.erase(0), True)
        self.assertEqual([chip.read(place) for place in (0, 4, 5, 19)], [EMPTY, EMPTY, PAGE, OTHER])
        self.assertEqual((chip.done, chip.wear), (5, (1, 0, 0, 0)))
        self.assertIs(chip.erase(3), True)
        self.assertIs(chip.erase(3), True)
        self.assertEqual((chip.done, chip.wear), (7, (1, 0, 0, 2)))
        self.assertEqual(chip.image(), (EMPTY,) * 5 + (PAGE,) + (EMPTY,) * 14)
        self.assertIs(chip.write(4, PAGE), True)
        self.assertEqual((chip.read(4), chip.done), (PAGE, 8))

    def test_pages_of_a_block_are_written_in_any_sequence(self):
        chip = Chip(4, 4)
        for place in (11, 8, 10, 9):
            self.assertIs(chip.write(place, OTHER), True)
        self.assertEqual(chip.image(), (EMPTY,) * 8 + (OTHER,) * 4 + (EMPTY,) * 4)

    def test_each_cell_is_written_as_told(self):
        for cell in (0, 1, 128, 254, 255):
            for sign in "0123456789abcde":
                chip = Chip(4, 4)
                cells = EMPTY[:cell] + sign + EMPTY[cell + 1:]
                self.assertIs(chip.write(3, cells), True)
                self.assertEqual(chip.read(3), cells)
                assert_unchanged_by_refusal(self, chip, NotEmpty, 3, chip.write, 3, EMPTY)

    def test_a_page_that_is_not_empty_is_not_written(self):
        chip = Chip(4, 4)
        chip.write(7, PAGE)
        for cells in (PAGE, OTHER, EMPTY, "0" * 256):
            assert_unchanged_by_refusal(self, chip, NotEmpty, 7, chip.write, 7, cells)

    def test_a_page_written_with_f_alone_is_empty_and_may_be_written_again(self):
        chip = Chip(4, 4)
        self.assertEqual([chip.write(2, EMPTY), chip.write(2, EMPTY), chip.done], [True, True, 2])
        assert_unchanged_by_refusal(self, chip, BadFade, (0, "0"), chip.fade, 2, 0, "0")
        self.assertIs(chip.write(2, PAGE), True)
        self.assertEqual((chip.read(2), chip.done), (PAGE, 3))
        assert_unchanged_by_refusal(self, chip, NotEmpty, 2, chip.write, 2, PAGE)

    def test_again_with_current_changes_nothing(self):
        chip = Chip(4, 4)
        before = chip.copy()
        self.assertIsNone(chip.again())
        self.assertEqual(chip, before)

    def test_reading_changes_nothing(self):
        chip = Chip(4, 4)
        chip.write(0, PAGE)
        before = chip.copy()
        self.assertEqual(seen(chip), seen(chip))
        self.assertEqual(chip, before)

    def test_an_image_stays_as_it_was(self):
        chip = Chip(4, 4)
        chip.write(0, PAGE)
        image = chip.image()
        chip.erase(0)
        self.assertEqual((image[0], chip.image()[0]), (PAGE, EMPTY))


class Fading(unittest.TestCase):
    def written(self, cells=PAGE, faults=()):
        chip = Chip(4, 4, faults)
        self.assertIs(chip.write(5, cells), True)
        return chip

    def test_any_cell_may_fall_to_any_lesser_sign(self):
        for cell in (0, 1, 2, 15, 16, 100, 254, 255):
            for sign in "0123456789abcdef":
                chip = self.written()
                if sign >= PAGE[cell]:
                    assert_unchanged_by_refusal(self, chip, BadFade, (cell, sign), chip.fade, 5, cell, sign)
                else:
                    self.assertIsNone(chip.fade(5, cell, sign))
                    self.assertEqual(chip.read(5), PAGE[:cell] + sign + PAGE[cell + 1:])
                    self.assertEqual((chip.done, chip.cuts, chip.wear, chip.bad), (1, 0, (0, 0, 0, 0), ()))

    def test_only_one_cell_falls_between_two_erases(self):
        chip = self.written()
        chip.fade(5, 15, "e")
        for cell, sign in ((15, "d"), (14, "0"), (255, "0")):
            assert_unchanged_by_refusal(self, chip, BadFade, (cell, sign), chip.fade, 5, cell, sign)
        chip.erase(1)
        assert_unchanged_by_refusal(self, chip, BadFade, (15, "e"), chip.fade, 5, 15, "e")
        chip.write(5, PAGE)
        self.assertIsNone(chip.fade(5, 14, "0"))
        self.assertEqual(chip.read(5)[:16], "0123456789abcd0f")

    def test_each_page_for_itself(self):
        chip = self.written()
        chip.write(4, OTHER)
        chip.fade(5, 1, "0")
        chip.fade(4, 0, "e")
        self.assertEqual((chip.read(4)[:2], chip.read(5)[:2]), ("ee", "00"))

    def test_a_page_that_was_never_written_does_not_fade(self):
        chip = self.written()
        assert_unchanged_by_refusal(self, chip, BadFade, (0, "0"), chip.fade, 0, 0, "0")

    def test_a_torn_page_does_not_fade(self):
        for word, pattern in (("bad", "0f"), ("bad", "0"), ("cut", "8"), ("cut", "0")):
            chip = Chip(4, 4, ((1, word, pattern),))
            if word == "cut":
                with self.assertRaises(Cut):
                    chip.write(5, OTHER)
            else:
                self.assertIs(chip.write(5, OTHER), False)
            self.assertNotEqual(chip.read(5), EMPTY)
            assert_unchanged_by_refusal(self, chip, BadFade, (2, "0"), chip.fade, 5, 2, "0")
            chip.again()
            assert_unchanged_by_refusal(self, chip, BadFade, (2, "0"), chip.fade, 5, 2, "0")

    def test_a_page_of_f_alone_that_is_torn_by_a_later_write_does_not_fade(self):
        chip = Chip(4, 4, ((2, "cut", "0f"),))
        self.assertIs(chip.write(5, EMPTY), True)
        with self.assertRaises(Cut):
            chip.write(5, OTHER)
        assert_unchanged_by_refusal(self, chip, BadFade, (2, "0"), chip.fade, 5, 2, "0")

    def test_no_page_of_a_block_fades_behind_a_torn_erase(self):
        for word in ("bad", "cut"):
            chip = Chip(4, 4, ((4, word, "0"),))
            for place in (4, 7, 8):
                chip.write(place, OTHER)
            if word == "cut":
                with self.assertRaises(Cut):
                    chip.erase(1)
            else:
                self.assertIs(chip.erase(1), False)
            self.assertEqual([chip.read(place) for place in (4, 7, 8)], [OTHER] * 3)
            for place in (4, 7):
                assert_unchanged_by_refusal(self, chip, BadFade, (0, "0"), chip.fade, place, 0, "0")
            self.assertIsNone(chip.fade(8, 0, "0"))

    def test_fading_needs_no_current_and_no_good_block(self):
        chip = self.written(faults=((2, "bad", "0"), (4, "cut", "f")))
        self.assertIs(chip.write(4, PAGE), False)
        self.assertIs(chip.erase(1), False)
        with self.assertRaises(Cut):
            chip.write(8, PAGE)
        self.assertEqual((chip.bad, chip.is_on, chip.done), ((1,), False, 4))
        self.assertIsNone(chip.fade(5, 1, "0"))
        self.assertEqual((chip.read(5)[:2], chip.done, chip.is_on), ("00", 4, False))

    def test_what_is_refused_leaves_the_page_able_to_fade(self):
        chip = self.written()
        for cell, sign in ((1, "1"), (0, "0"), (256, "0"), (-1, "0"), (1, "")):
            assert_unchanged_by_refusal(self, chip, BadFade, (cell, sign), chip.fade, 5, cell, sign)
        with self.assertRaises(NotEmpty):
            chip.write(5, EMPTY)
        self.assertIsNone(chip.fade(5, 1, "0"))


class Copies(unittest.TestCase):
    def test_a_copy_goes_its_own_way(self):
        chip = Chip(4, 4, ((3, "cut", "0f"),))
        chip.write(0, PAGE)
        twin = chip.copy()
        self.assertEqual((twin, seen(twin)), (chip, seen(chip)))
        twin.write(1, PAGE)
        twin.fade(0, 1, "0")
        self.assertEqual((chip.done, chip.read(0), chip.read(1)), (1, PAGE, EMPTY))
        with self.assertRaises(Cut):
            twin.erase(0)
        self.assertEqual((twin.is_on, twin.cuts, twin.wear), (False, 1, (1, 0, 0, 0)))
        self.assertEqual((chip.is_on, chip.cuts, chip.wear, chip.image()), (True, 0, (0,) * 4, (PAGE,) + (EMPTY,) * 15))
        self.assertIsNone(chip.fade(0, 2, "0"))
        self.assertEqual(twin.read(0)[:4], "0f2f")

    def test_the_faults_to_come_come_to_both(self):
        chip = Chip(4, 4, ((2, "bad", "f"), (3, "cut", "0")))
        chip.write(0, PAGE)
        twin = chip.copy()
        for one in (chip, twin):
            self.assertIs(one.write(4, PAGE), False)
            with self.assertRaises(Cut):
                one.write(8, PAGE)
            self.assertEqual((one.bad, one.done, one.cuts, one.read(8)), ((1,), 3, 1, PAGE))
        self.assertEqual(chip, twin)

    def test_a_copy_keeps_wear_bad_blocks_cuts_and_no_current(self):
        chip = Chip(4, 4, ((2, "bad", "f"), (3, "cut", "f")))
        chip.erase(2)
        chip.erase(1)
        with self.assertRaises(Cut):
            chip.erase(2)
        twin = chip.copy()
        self.assertEqual(seen(twin), seen(chip))
        self.assertEqual((twin.wear, twin.bad, twin.cuts, twin.is_on), ((0, 1, 2, 0), (1,), 1, False))
        twin.again()
        self.assertEqual((chip.is_on, twin.is_on, chip == twin), (False, True, False))
        twin.erase(3)
        self.assertEqual((chip.wear, twin.wear), ((0, 1, 2, 0), (0, 1, 2, 1)))

    def test_what_is_done_to_the_chip_is_not_done_to_the_copy(self):
        chip = Chip(4, 4, ((3, "bad", "0"),))
        chip.write(0, PAGE)
        twin = chip.copy()
        chip.fade(0, 1, "0")
        chip.erase(1)
        chip.write(8, PAGE)
        self.assertEqual((twin.done, twin.wear, twin.bad), (1, (0,) * 4, ()))
        self.assertEqual(twin.image(), (PAGE,) + (EMPTY,) * 15)
        self.assertIsNone(twin.fade(0, 1, "0"))

    def test_a_page_that_fell_stays_so_in_a_copy(self):
        chip = Chip(4, 4)
        chip.write(0, PAGE)
        chip.fade(0, 1, "0")
        twin = chip.copy()
        assert_unchanged_by_refusal(self, twin, BadFade, (2, "0"), twin.fade, 0, 2, "0")


if __name__ == "__main__":
    unittest.main()
