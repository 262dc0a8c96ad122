"""Section 4: long rows of deeds, each compared with a chip that is told cell by cell."""

import random
import unittest

from plain_chip import PlainChip, Told
from refusals import same

from worneven.chips import Chip
from worneven.errors import FlashError

SIGNS = "0123456789abcdef"


def some_cells(chance):
    kind = chance.randrange(6)
    if kind == 0:
        return "f" * 256
    if kind == 1:
        return "f" * 255 + chance.choice(SIGNS)
    return "".join(chance.choices(SIGNS, k=256))


def some_pattern(chance):
    kind = chance.randrange(4)
    if kind == 0:
        return chance.choice("0f8")
    if kind == 1:
        return "".join(chance.choices("0f", k=256))
    return "".join(chance.choices(SIGNS, k=chance.choice((1, 2, 3, 17, 128, 255, 256))))


def some_faults(chance, deeds):
    numbers = sorted(chance.sample(range(1, deeds), chance.randrange(deeds // 4)))
    return tuple((at, chance.choice(("cut", "cut", "bad")), some_pattern(chance)) for at in numbers)


def some_deed(chance, blocks, pages):
    kind = chance.choice(("write", "write", "write", "erase", "fade", "fade", "again"))
    if kind == "write":
        return kind, (chance.randrange(blocks * pages), some_cells(chance))
    if kind == "erase":
        return kind, (chance.randrange(blocks),)
    if kind == "fade":
        return kind, (chance.randrange(blocks * pages), chance.randrange(256), chance.choice(SIGNS))
    return kind, ()


def outcome(chip, kind, arguments):
    try:
        return "told", getattr(chip, kind)(*arguments)
    except FlashError as error:
        return type(error).__name__, error.value
    except Told as error:
        return error.name, error.value


class Rows(unittest.TestCase):
    def alike(self, chip, plain):
        told = (chip.blocks, chip.pages, chip.wear, chip.bad, chip.done, chip.cuts, chip.is_on)
        wear, bad = tuple(plain.wear), tuple(sorted(plain.bad))
        expected = (plain.blocks, plain.pages, wear, bad, plain.done, plain.cuts, plain.is_on)
        self.assertTrue(same(told, expected), (told, expected))
        self.assertEqual(chip.image(), plain.image())
        self.assertTrue(plain.lies_between())

    def row(self, seed, deeds):
        chance = random.Random(seed)
        blocks, pages = chance.choice(((4, 4), (4, 4), (5, 4), (4, 7)))
        faults = some_faults(chance, deeds)
        chip, plain = Chip(blocks, pages, faults), PlainChip(blocks, pages, faults)
        for lap in range(deeds):
            if chance.randrange(12) == 0:
                elder, image = chip, chip.image()
                chip = chip.copy()
                self.assertTrue(chip == elder)
            kind, arguments = some_deed(chance, blocks, pages)
            before, bad = chip.image(), chip.bad
            told = outcome(chip, kind, arguments)
            expected = outcome(plain, kind, arguments)
            self.assertTrue(same(told, expected), (seed, lap, kind, told, expected))
            self.alike(chip, plain)
            self.bad_blocks_stay(bad, before, chip, kind)
        if faults:
            self.assertGreater(chip.done, 0)

    def bad_blocks_stay(self, bad, before, chip, kind):
        self.assertEqual([block for block in bad if block not in chip.bad], [])
        if kind == "fade":
            return
        for block in bad:
            low, high = block * chip.pages, (block + 1) * chip.pages
            self.assertEqual(chip.image()[low:high], before[low:high])

    def test_rows_of_deeds(self):
        for seed in range(60):
            with self.subTest(seed=seed):
                self.row(seed, 60)

    def test_the_same_deeds_make_equal_chips(self):
        for seed in range(20):
            chance = random.Random(seed)
            faults = some_faults(chance, 40)
            one, other = Chip(4, 4, faults), Chip(4, 4, faults)
            for lap in range(40):
                deed = some_deed(chance, 4, 4)
                done = one.done
                told = outcome(one, *deed)
                # A deed that one chip is ahead of the other one can be asked for: done tells it.
                if one.done > done:
                    self.assertFalse(one == other)
                self.assertTrue(same(outcome(other, *deed), told))
                self.assertTrue(one == other)

    def test_copies_go_on_by_themselves(self):
        for seed in range(30):
            chance = random.Random(1000 + seed)
            faults = some_faults(chance, 40)
            chip = Chip(4, 4, faults)
            for lap in range(20):
                outcome(chip, *some_deed(chance, 4, 4))
            still, twin = chip.copy(), chip.copy()
            deeds = [some_deed(chance, 4, 4) for lap in range(30)]
            told = [outcome(twin, *deed) for deed in deeds]
            self.assertTrue(chip == still)
            self.assertEqual([outcome(chip, *deed) for deed in deeds], told)
            self.assertTrue(chip == twin)


if __name__ == "__main__":
    unittest.main()
