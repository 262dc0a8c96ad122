"""Section 7: long rows of commits and gatherings without faults, with few and with many, looked at behind each deed."""

import random
import unittest

from ground_chips import ALL, PATTERNS, WatchedChip, dict_behind, items_of_dict, opened_anew, wear_promised, with_faults
from reading import plain_living, plain_meaning, plain_newest, plain_room, plain_text

from worneven.errors import Cut, Full
from worneven.grounds import Ground, meaning, told_room

KEYS = [first + second for first in "abcdefghijklm" for second in "0123456789"]
SIZES = ((4, 4), (4, 16), (5, 6), (6, 4), (7, 5), (8, 4), (9, 8), (16, 4))


def most_told(good, pages):
    """How many entries a map may have where room is told for it; -1 for none at all."""
    return ((good - 4) * pages) // 3 - 1


def some_changes(chance, keys):
    many = chance.choice((0, 1, 1, 1, 2, 4, len(keys)))
    told = chance.choice(((None,), ("v", "w"), ("x", "y" * 13, " ", None)))
    return tuple((key, chance.choice(told)) for key in sorted(chance.sample(keys, min(many, len(keys)))))


class Story:
    """A ground that is told commits, beside a plain dict, with the faults of the row that it is in."""

    def __init__(self, test, chance, chip):
        self.test, self.chance, self.chip = test, chance, chip
        self.ground = Ground(chip)
        self.held = {}
        # Bad blocks in the row of commits that were cut; None where no commit was.
        self.row_bad = None
        self.is_promised = True
        self.count = {"done": 0, "gathered": 0, "full": 0, "cut": 0}

    def promised_bad(self, will_be_cut):
        """How many blocks may go bad in the next commit without a promise being lost."""
        if self.row_bad is not None:
            return 1 - self.row_bad
        return 1 if will_be_cut else 2

    def tell_faults(self, faults):
        """The faults to come, and a watched chip to bear them, on which the ground is opened anew."""
        if faults:
            may_mean, self.chip = self.chip.may_mean, with_faults(self.chip, faults, WatchedChip)
            self.chip.may_mean = may_mean
            self.ground = opened_anew(self.chip)

    def say(self, changes, faults=()):
        """A commit of the changes; None gathers."""
        self.tell_faults(faults)
        after = self.held if changes is None else dict_behind(self.held, changes)
        bad, number, before = len(self.chip.bad), self.ground.number, self.chip.copy()
        self.chip.may_mean = [items_of_dict(self.held), items_of_dict(after)]
        try:
            self.ground.gather() if changes is None else self.ground.commit(changes)
            outcome = "done"
        except Full:
            outcome = "full"
        except Cut:
            outcome = "cut"
        self.count[outcome] += 1
        self.bad_counted(outcome, len(self.chip.bad) - bad)
        if outcome == "done":
            self.held = after
            self.test.assertIn(self.ground.number - number, (1,) if changes is None else (1, 2, 3))
            self.count["gathered"] += self.ground.number - number > 1
        if outcome == "full":
            self.was_full(after, bad, before)
        if outcome == "cut":
            self.was_cut(after)
        self.look_round()

    def bad_counted(self, outcome, bad):
        row = bad + (self.row_bad or 0)
        if row > (2 if outcome != "cut" and self.row_bad is None else 1):
            self.is_promised = False
        self.row_bad = row if outcome == "cut" else None

    def was_full(self, after, bad, before):
        good = self.chip.blocks - len(self.chip.bad)
        told = [told_room(len(held), good, self.chip.pages) for held in (self.held, after)]
        self.test.assertFalse(self.is_promised and all(told), "refused, though room was told")
        if len(self.chip.bad) == bad:
            self.test.assertTrue(self.chip == before, "written in vain, though no block went bad")

    def was_cut(self, after):
        found = dict(plain_meaning(self.chip.image())[2])
        self.test.assertIn(found, (self.held, after))
        self.held = found
        self.ground = opened_anew(self.chip)

    def look_round(self):
        ground, image = self.ground, self.chip.image()
        expected = ("map", ground.number, items_of_dict(self.held))
        self.test.assertEqual(plain_meaning(image), expected)
        self.test.assertEqual(meaning(image, self.chip.pages), expected)
        self.test.assertEqual(ground.items(*ALL), expected[2])
        self.test.assertEqual(ground.living, plain_living(image))
        if any(place // self.chip.pages not in self.chip.bad for place in ground.living):
            self.test.assertEqual(ground.room(), plain_room(self.chip, ground.living))
        self.test.assertTrue(wear_promised(self.chip))
        if self.chance.random() < 0.2:
            other = opened_anew(self.chip)
            told = [(one.number, one.living, one.room()) for one in (ground, other, Ground(self.chip.copy()))]
            self.test.assertEqual(told, [told[0]] * 3)
            self.ground = other


class GroundRows(unittest.TestCase):
    def story(self, seed, blocks, pages):
        chance = random.Random(seed)
        return Story(self, chance, WatchedChip(blocks, pages)), chance

    def test_rows_without_faults(self):
        for seed, (blocks, pages) in enumerate(SIZES):
            story, chance = self.story(seed, blocks, pages)
            keys = KEYS[:max(3, most_told(blocks, pages))]
            for lap in range(6 * blocks * pages // 2 if pages < 16 else 150):
                story.say(None if chance.random() < 0.05 else some_changes(chance, keys))
            self.assertGreaterEqual(min(story.chip.wear), 3, (blocks, pages))
            self.assertLessEqual(max(story.chip.wear) - min(story.chip.wear), 1)

    def test_an_old_leaf_in_the_way_of_many_roots(self):
        for blocks, pages in ((4, 4), (5, 4), (6, 4), (5, 6), (8, 5)):
            story, _ = self.story(0, blocks, pages)
            story.say((("a", "1"),))
            for lap in range(4 * blocks * pages):
                story.say(())
            self.assertEqual((story.count["done"], story.count["full"]), (4 * blocks * pages + 1, 0))
            self.assertGreater(story.count["gathered"], 2)
            self.assertGreaterEqual(min(story.chip.wear), 2)

    def test_rows_of_gatherings(self):
        for blocks, pages in ((4, 4), (5, 4), (6, 6)):
            story, _ = self.story(0, blocks, pages)
            story.say(tuple((key, "v") for key in KEYS[:4]))
            for lap in range(3 * blocks * pages):
                story.say(None)
            self.assertEqual(story.count["full"], 0)
            self.assertGreaterEqual(min(story.chip.wear), 4)

    def with_some_faults(self, seed, many_bad):
        blocks, pages = SIZES[seed % len(SIZES)]
        story, chance = self.story(seed, blocks + (0, 2, 4)[seed % 3], pages)
        is_over = seed % 5 == 0
        for lap in range(70):
            good = story.chip.blocks - len(story.chip.bad)
            most = max(1, most_told(good - chance.randrange(3), pages))
            keys = KEYS[:min(len(KEYS), 3 * most + 3 if is_over else most)]
            faults = {}
            if chance.random() < 0.25:
                faults[chance.randint(1, 6)] = "cut"
            may = chance.randint(1, 5) if many_bad else story.promised_bad(bool(faults))
            if good > 4 and chance.random() < 0.15:
                for at in chance.sample(range(1, 8), max(0, may)):
                    faults.setdefault(at, "bad")
            told = tuple((at, faults[at], chance.choice(PATTERNS)) for at in sorted(faults))
            story.say(None if chance.random() < 0.08 else some_changes(chance, keys), told)
        return story

    def test_rows_with_cuts_and_blocks_that_go_bad(self):
        stories = [self.with_some_faults(seed, False) for seed in range(24)]
        self.assertGreater(sum(story.count["cut"] for story in stories), 150)
        self.assertGreater(sum(len(story.chip.bad) for story in stories), 30)

    def test_rows_with_more_bad_blocks_than_room_is_told_for(self):
        for seed in range(16):
            self.with_some_faults(300 + seed, True)

    def test_more_keys_than_there_is_room_for(self):
        for seed, (blocks, pages) in enumerate(((4, 4), (5, 4), (6, 6), (4, 16))):
            story, chance = self.story(seed, blocks, pages)
            for lap in range(90):
                story.say(some_changes(chance, KEYS[:blocks * pages]))
            self.assertGreater(story.count["full"], 0)
            self.assertGreater(story.count["done"], 20)


class Fallen(unittest.TestCase):
    def test_one_cell_of_each_page_that_stands_as_it_was_written(self):
        for seed in range(4):
            chance = random.Random(seed)
            chip = WatchedChip(8, 4)
            ground, held = Ground(chip), {}
            for lap in range(50):
                changes = some_changes(chance, KEYS[:4])
                held = dict_behind(held, changes)
                ground.commit(changes)
                for place in range(32):
                    cells = chip.read(place)
                    if plain_text(cells) is not None and chance.random() < 0.7:
                        self.fall(chance, chip, place, cells)
                self.assertEqual(ground.items(*ALL), items_of_dict(held))
                self.assertEqual(opened_anew(chip).items(*ALL), items_of_dict(held))
                self.assertEqual(plain_meaning(chip.image()), ("map", ground.number, items_of_dict(held)))
                self.assertEqual(plain_newest(chip.image())[0], ground.number)
            self.assertGreaterEqual(min(chip.wear), 1)

    def fall(self, chance, chip, place, cells):
        at = chance.choice([at for at in range(256) if cells[at] != "0"])
        try:
            chip.fade(place, at, chance.choice("0123456789abcdef"[:int(cells[at], 16)]))
        except ValueError:
            # A cell of this page fell already.
            self.assertTrue(cells != "f" * 256)


if __name__ == "__main__":
    unittest.main()
