"""Section 4: chips are equal if they are alike in all that is told of them, and equal nothing else."""

import unittest

from refusals import values_of_all_kinds

from worneven.chips import Chip
from worneven.errors import Cut

EMPTY = "f" * 256
PAGE = "0123456789abcdef" * 16


class Equality(unittest.TestCase):
    def alike(self, one, other):
        self.assertIs(one == other, True)
        self.assertIs(other == one, True)
        self.assertIs(one != other, False)

    def unlike(self, one, other):
        self.assertIs(one == other, False)
        self.assertIs(other == one, False)
        self.assertIs(one != other, True)

    def test_alike(self):
        self.alike(Chip(4, 4), Chip(4, 4, ()))
        faults = ((2, "bad", "0f"), (4, "cut", "8"))
        one, other = Chip(5, 6, faults), Chip(5, 6, ((2, "bad", "0f"), (4, "cut", "8")))
        for chip in (one, other):
            chip.write(0, PAGE)
            chip.write(6, PAGE)
            chip.erase(3)
            chip.fade(0, 1, "0")
            try:
                chip.erase(0)
            except Cut:
                pass
        self.alike(one, other)
        self.alike(one, one)
        self.alike(one, one.copy())

    def test_other_sizes(self):
        self.unlike(Chip(4, 4), Chip(5, 4))
        self.unlike(Chip(4, 4), Chip(4, 5))
        self.unlike(Chip(4, 8), Chip(8, 4))

    def test_other_cells(self):
        one, other = Chip(4, 4), Chip(4, 4)
        one.write(15, PAGE)
        other.write(15, PAGE[:255] + "e")
        self.unlike(one, other)

    def test_other_places(self):
        one, other = Chip(4, 4), Chip(4, 4)
        one.write(0, PAGE)
        other.write(1, PAGE)
        self.unlike(one, other)

    def test_other_wear(self):
        one, other = Chip(4, 4), Chip(4, 4)
        one.erase(0)
        other.erase(1)
        self.unlike(one, other)

    def test_other_bad_blocks(self):
        one, other = Chip(4, 4, ((1, "bad", "f"),)), Chip(4, 4, ((1, "bad", "f"),))
        one.write(0, PAGE)
        other.write(4, PAGE)
        self.assertEqual((one.image(), one.wear), (other.image(), other.wear))
        self.unlike(one, other)

    def test_another_number_of_deeds(self):
        one, other = Chip(4, 4), Chip(4, 4)
        one.write(0, EMPTY)
        self.assertEqual(one.image(), other.image())
        self.unlike(one, other)
        other.write(9, EMPTY)
        self.alike(one, other)

    def test_current_or_none(self):
        one, other = Chip(4, 4, ((1, "cut", "f"),)), Chip(4, 4, ((1, "cut", "f"),))
        for chip in (one, other):
            with self.assertRaises(Cut):
                chip.write(0, PAGE)
        one.again()
        self.unlike(one, other)
        other.again()
        self.alike(one, other)

    def test_another_number_of_cuts(self):
        one, other = Chip(4, 4, ((1, "cut", "f"),)), Chip(4, 4, ((1, "bad", "f"),))
        with self.assertRaises(Cut):
            one.write(0, PAGE)
        one.again()
        other.write(0, PAGE)
        self.unlike(one, other)

    def test_other_faults(self):
        told = (
            (), ((9, "cut", "f"),), ((8, "cut", "f"),), ((9, "bad", "f"),), ((9, "cut", "e"),), ((9, "cut", "ff"),),
            ((9, "cut", "f"), (10, "cut", "f")),
        )
        for row, faults in enumerate(told):
            for column, others in enumerate(told):
                check = self.alike if row == column else self.unlike
                check(Chip(4, 4, faults), Chip(4, 4, others))

    def test_other_faults_that_came_already(self):
        one = Chip(4, 4, ((1, "bad", "f"), (2, "bad", "0")))
        other = Chip(4, 4, ((1, "bad", "f"), (2, "bad", "1")))
        for chip in (one, other):
            chip.write(0, PAGE)
            chip.write(1, PAGE)
        self.assertEqual((one.image(), one.bad, one.done), (other.image(), other.bad, other.done))
        self.unlike(one, other)

    def test_a_page_that_fell_or_was_written_so(self):
        one, other = Chip(4, 4), Chip(4, 4)
        one.write(0, PAGE)
        one.fade(0, 1, "0")
        other.write(0, "00" + PAGE[2:])
        self.assertEqual((one.image(), one.done), (other.image(), other.done))
        self.unlike(one, other)
        other.fade(0, 2, "0")
        self.unlike(one, other)

    def test_a_page_that_stands_or_was_torn(self):
        one, other = Chip(4, 4, ((2, "bad", "0"),)), Chip(4, 4, ((2, "bad", "0"),))
        one.write(0, PAGE)
        one.write(1, PAGE)
        other.write(1, PAGE)
        other.write(0, PAGE)
        self.assertEqual((one.image(), one.bad, one.done), (other.image(), other.bad, other.done))
        self.unlike(one, other)

    def test_of_empty_pages_it_does_not_count_how_they_became_so(self):
        one, other = Chip(4, 4), Chip(4, 4)
        one.write(0, EMPTY)
        one.erase(1)
        other.erase(1)
        other.write(4, EMPTY)
        self.alike(one, other)
        other.erase(2)
        self.unlike(one, other)

    def test_nothing_else(self):
        chip = Chip(4, 4)
        others = [value for value in values_of_all_kinds() if not isinstance(value, Chip)]
        for other in others + [0, 1, 4, "", "chip", chip.image(), object(), Chip, (4, 4), [chip], (chip,)]:
            self.unlike(chip, other)

    def test_comparing_changes_nothing(self):
        chip = Chip(4, 4, ((2, "cut", "f"),))
        chip.write(0, PAGE)
        image = chip.image()
        self.assertEqual((chip == Chip(4, 4), chip == None, chip == chip.copy()), (False, False, True))  # noqa: E711
        self.assertEqual((chip.image(), chip.done, chip.is_on), (image, 1, True))


if __name__ == "__main__":
    unittest.main()
