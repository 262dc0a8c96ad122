"""Section 7, bad blocks: at any write and erase of a commit, two in one, one among cuts, and what told_room promises."""

import unittest

from ground_chips import (
    ALL, PATTERNS, WatchedChip, deeds_of, dict_behind, items_of_dict, opened_anew, wear_promised, with_faults,
)
from reading import plain_living, plain_meaning

from worneven.chips import Chip
from worneven.errors import Cut, Full
from worneven.grounds import Ground, told_room

# (good blocks, pages, entries): the most entries, and the fewest blocks, for which room is told.
EDGES = ((5, 4, 0), (6, 4, 1), (5, 5, 0), (6, 5, 2), (5, 6, 1), (6, 6, 3), (5, 9, 2), (5, 16, 4), (8, 4, 4))


def values(many, value):
    return tuple((f"k{number:03d}", value) for number in range(many))


class BadBlocks(unittest.TestCase):
    def commit(self, chip, changes, faults, held):
        """The chip behind the commit of these changes with faults, opened anew if it was cut; whether it was done."""
        after = dict_behind(held, changes)
        chip = with_faults(chip, faults, WatchedChip)
        chip.may_mean = [items_of_dict(held), items_of_dict(after)]
        ground, done = opened_anew(chip), True
        try:
            ground.commit(changes)
        except (Cut, Full) as error:
            done = error.__class__.__name__
        if done == "Full":
            good = chip.blocks - len(chip.bad)
            told = told_room(len(held), good, chip.pages) and told_room(len(after), good, chip.pages)
            self.assertFalse(told, "refused, though room was told")
        if not chip.is_on:
            chip.again()
        self.assertTrue(wear_promised(chip))
        return chip, done

    def look_at(self, chip, expected):
        told = plain_meaning(chip.image())
        self.assertEqual(told[2], expected)
        ground = opened_anew(chip)
        self.assertEqual((ground.number, ground.items(*ALL)), told[1:])
        self.assertEqual(ground.living, plain_living(chip.image()))

    def moments(self, more, edges=EDGES):
        """Chips at many moments of the ring, most of them when an old leaf stands in its way, and commits for them."""
        for good, pages, entries in edges:
            self.assertTrue(told_room(entries, good, pages))
            self.assertFalse(told_room(entries + 1, good, pages) and told_room(entries, good - 1, pages))
            chip, held = Chip(good + more, pages), {}
            ground = Ground(chip)
            for lap in range(chip.blocks * pages):
                if lap == 2:
                    held = dict(values(entries, str(lap)))
                    ground.commit(values(entries, str(lap)))
                else:
                    ground.commit(())
                if lap % 7 == 0 or (pages < 7 and lap > chip.blocks * pages - 12):
                    yield chip, held, values(entries, f"new{lap}")

    def test_one_block_at_each_write_and_each_erase(self):
        for chip, held, changes in self.moments(1):
            deeds = deeds_of(chip, lambda ground: ground.commit(changes))
            for at in range(1, deeds + 1):
                for pattern in PATTERNS:
                    other, done = self.commit(chip, changes, ((at, "bad", pattern),), held)
                    self.assertIs(done, True)
                    self.assertEqual(len(other.bad), 1)
                    self.look_at(other, changes)

    def test_two_blocks_in_one_commit_and_two_in_the_next_one(self):
        for chip, held, changes in self.moments(4):
            deeds = deeds_of(chip, lambda ground: ground.commit(changes))
            for at in range(1, deeds + 1):
                for second in range(at + 1, deeds + 3):
                    pattern = "f0"[(at + second) % 2]
                    other, done = self.commit(chip, changes, ((at, "bad", pattern), (second, "bad", "f")), held)
                    self.assertIs(done, True)
                    last = values(len(changes), "last")
                    deeds_then = deeds_of(other, lambda ground: ground.commit(last))
                    for third in range(1, deeds_then + 1):
                        faults = ((third, "bad", "f"), (third + 1, "bad", pattern))
                        again, done = self.commit(other, last, faults, dict(changes))
                        self.assertIs(done, True)
                        self.assertEqual(plain_meaning(again.image())[2], last)

    def test_one_block_among_commits_that_are_cut(self):
        for chip, held, changes in self.moments(1, EDGES[:5]):
            deeds = deeds_of(chip, lambda ground: ground.commit(changes))
            for cut in range(1, deeds + 1):
                for pattern in ("f", "0", "0f"):
                    torn, done = self.commit(chip, changes, ((cut, "cut", pattern),), held)
                    found = dict(plain_meaning(torn.image())[2])
                    for bad in range(1, 4):
                        for second in (None, bad + 1, bad + 3):
                            faults = ((bad, "bad", "f"),) + (((second, "cut", pattern),) if second else ())
                            other, done = self.commit(torn, changes, faults, found)
                            if done is not True:
                                found_then = dict(plain_meaning(other.image())[2])
                                other, done = self.commit(other, changes, (), found_then)
                            self.assertIs(done, True)
                            self.assertEqual(plain_meaning(other.image())[2], changes)

    def test_a_bad_block_ahead_of_cuts(self):
        for chip, held, changes in self.moments(1):
            for bad in (1, 2, 3):
                other, done = self.commit(chip, changes, ((bad, "bad", "f"), (bad + 1, "cut", "0f")), held)
                for lap in range(5):
                    if done is True:
                        break
                    found = dict(plain_meaning(other.image())[2])
                    other, done = self.commit(other, changes, ((1 + lap, "cut", "0f"),) if lap < 4 else (), found)
                self.assertIs(done, True)

    def test_at_the_edge_of_told_room_no_commit_is_refused(self):
        for good, pages, entries in EDGES:
            ground = Ground(Chip(good, pages))
            for lap in range(3 * good * pages):
                many = (entries, 0, entries // 2)[lap % 3] if lap % 7 else entries
                changes = dict(values(entries, None))
                changes.update(values(many, str(lap)))
                ground.commit(tuple(sorted(changes.items())))
                self.assertEqual(ground.items(*ALL), values(many, str(lap)))

    def test_what_is_refused_at_the_edge_does_no_harm(self):
        for chip, held, changes in self.moments(2, EDGES[:5]):
            more = tuple((f"k{number:03d}", "more") for number in range(3 * chip.blocks * chip.pages))
            other, done = self.commit(chip, more, ((1, "bad", "f"), (2, "bad", "f")), held)
            self.assertEqual(done, "Full")
            for many in range(1, chip.blocks * chip.pages, 3):
                more = tuple((f"k{number:03d}", "more") for number in range(many))
                other, done = self.commit(chip, more, ((2, "bad", "f"), (5, "bad", "0")), held)
                if done == "Full":
                    self.look_at(other, items_of_dict(held))
                    last, done = self.commit(other, changes, (), held)
                    self.assertIs(done, True)
                    self.look_at(last, changes)

    def test_behind_bad_blocks_it_is_gathered_if_need_be(self):
        found = set()
        for chip, held, changes in self.moments(2):
            for at in range(1, 4):
                other = with_faults(chip, ((at, "bad", "f"), (at + 1, "bad", "f")))
                ground = Ground(other)
                number = ground.number
                ground.commit(())
                found.add(ground.number - number)
                self.assertEqual(ground.items(*ALL), items_of_dict(held))
        self.assertEqual(found, {1, 2})

    def test_a_root_that_is_whole_in_a_bad_block(self):
        for chip, held, changes in self.moments(1):
            twin = with_faults(chip, ())
            deeds = deeds_of(chip, lambda ground: ground.commit(changes))
            Ground(twin).commit(changes)
            other, done = self.commit(chip, changes, ((deeds, "bad", "0"),), held)
            self.assertIs(done, True)
            number = plain_meaning(twin.image())[1]
            self.assertIn(plain_meaning(other.image()), (("map", number, changes), ("map", number + 1, changes)))

    def test_until_all_blocks_are_bad(self):
        for pattern in ("f", "0", "0f"):
            chip = Chip(9, 4)
            Ground(chip).commit(values(2, "one"))
            held = dict(values(2, "one"))
            for lap in range(40):
                chip, done = self.commit(chip, values(2, str(lap)), ((1 + lap % 3, "bad", pattern),), held)
                if done is True:
                    held = dict(values(2, str(lap)))
                self.look_at(chip, items_of_dict(held))
            self.assertGreaterEqual(len(chip.bad), 5)
            before = chip.copy()
            if len(chip.bad) == 9:
                self.assertEqual(self.commit(chip, values(2, "x"), (), held)[1], "Full")
                self.assertEqual(chip.image(), before.image())


if __name__ == "__main__":
    unittest.main()
