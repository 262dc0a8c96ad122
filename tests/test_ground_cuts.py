"""Section 7, cuts: at each write and each erase of a commit, and again while all is done once more."""

import unittest

from ground_chips import (
    ALL, PATTERNS, cut_behind, deeds_of, dict_behind, items_of_dict, opened_anew, wear_promised, with_faults, written_chip,
)
from reading import plain_living, plain_meaning, plain_room
from refusals import assert_refused

from worneven.chips import Chip
from worneven.errors import Cut
from worneven.grounds import Ground, meaning


def chip_with(blocks, pages, rows):
    """The chip behind these rows of changes, and the dict of its map; None gathers."""
    chip, held = Chip(blocks, pages), {}
    ground = Ground(chip)
    for changes in rows:
        if changes is None:
            ground.gather()
        else:
            ground.commit(changes)
            held = dict_behind(held, changes)
    return chip, held


def values(keys, value):
    return tuple((key, value) for key in keys)


# Chips, and a commit that is cut on them: within a block, over a block's end, with an erase, with a gathering ahead of it.
SOME = "abcdef"
ROWS = {
    "the first commit": ((6, 4, ()), values("ab", "one")),
    "over the end of a block": ((6, 4, (values("ab", "one"),)), values(SOME, "two")),
    "into a block that is erased": ((6, 4, [values("a", str(number)) for number in range(11)]), values("ab", "two")),
    "all keys go": ((8, 4, (values(SOME, "one"), values("a", "two"))), values(SOME, None)),
    "without changes": ((5, 4, [values("a", str(number)) for number in range(12)]), ()),
    "with a gathering ahead": ((6, 4, (values("a", "one"),) + ((),) * 10), values("ab", "two")),
    "many sheets": ((16, 8, (values("abcdefghijklmnopqrst", "one"), values("a", "x"))), values("adgjmpsvz", "two")),
    "a gathering": ((8, 4, (values(SOME, "one"), values("f", "two"), ())), None),
}


def done_by(changes):
    def deed(ground):
        if changes is None:
            ground.gather()
        else:
            ground.commit(changes)
    return deed


class Cuts(unittest.TestCase):
    def look_at(self, chip, maps):
        """What lies on the chip means one of the maps; it is told, with the ground that is opened on it."""
        told = plain_meaning(chip.image())
        self.assertIn(told[2], [items_of_dict(held) for held in maps])
        self.assertEqual(meaning(chip.image(), chip.pages), told)
        ground = opened_anew(chip)
        twin, copied = opened_anew(chip), Ground(chip.copy())
        for one in (ground, twin, copied):
            self.assertEqual((one.number, one.items(*ALL)), told[1:])
            self.assertEqual(one.living, plain_living(chip.image()))
            self.assertEqual(one.room(), plain_room(chip, one.living))
        self.assertTrue(wear_promised(chip))
        return dict(told[2]), ground

    def test_rows_are_what_they_are_called(self):
        told = {}
        for name, ((blocks, pages, rows), changes) in ROWS.items():
            chip, _ = chip_with(blocks, pages, rows)
            twin = with_faults(chip, ())
            ground = Ground(twin)
            number = ground.number
            done_by(changes)(ground)
            told[name] = (twin.wear != chip.wear, ground.number - number > 1)
        self.assertTrue(told["into a block that is erased"][0])
        self.assertTrue(told["with a gathering ahead"][1])

    def each_cut(self, name, patterns):
        (blocks, pages, rows), changes = ROWS[name]
        chip, held = chip_with(blocks, pages, rows)
        after = held if changes is None else dict_behind(held, changes)
        deeds = deeds_of(chip, done_by(changes))
        for at in range(1, deeds + 2):
            for pattern in patterns:
                yield chip, held, after, changes, at, pattern, cut_behind(chip, at, pattern, done_by(changes)), at > deeds

    def test_a_cut_at_each_write_and_each_erase(self):
        for name in ROWS:
            for chip, held, after, changes, at, pattern, torn, is_behind in self.each_cut(name, PATTERNS):
                with self.subTest(name=name, at=at, pattern=pattern):
                    self.assertEqual(torn is None, is_behind)
                    if torn is None:
                        continue
                    self.assertEqual((torn.is_on, torn.cuts), (False, 1))
                    found, ground = self.look_at(torn, (held, after))
                    if pattern == "f":
                        self.assertEqual(found, held)
                    done_by(changes)(ground)
                    self.assertEqual(self.look_at(torn, (after,))[0], after)

    def test_cut_again_while_the_commit_is_done_once_more(self):
        for name in ROWS:
            for chip, held, after, changes, at, pattern, torn, is_behind in self.each_cut(name, ("f", "0", "0f")):
                if torn is None:
                    continue
                torn.again()
                deeds = deeds_of(torn, done_by(changes))
                # Of many sheets each third deed, lest it take long.
                for second in range(1 + at % 3 if deeds > 9 else 1, deeds + 1, 3 if deeds > 9 else 1):
                    for other in ("f", "0", "7"):
                        twice = cut_behind(torn, second, other, done_by(changes))
                        self.assertEqual(twice.cuts, 2)
                        found, ground = self.look_at(twice, (held, after))
                        done_by(changes)(ground)
                        self.assertEqual(self.look_at(twice, (after,))[0], after)

    def test_cut_again_and_again(self):
        for name in ROWS:
            (blocks, pages, rows), changes = ROWS[name]
            for pattern in ("f", "0f", "8"):
                chip, held = chip_with(blocks, pages, rows)
                after = held if changes is None else dict_behind(held, changes)
                for lap in range(12):
                    torn = cut_behind(chip, 1 + lap % 3, pattern, done_by(changes))
                    if torn is None:
                        break
                    chip = torn
                    found, ground = self.look_at(chip, (held, after))
                done_by(changes)(opened_anew(chip))
                self.assertEqual(self.look_at(chip, (after,))[0], after)

    def test_behind_a_root_that_is_whole_the_commit_is_done(self):
        chip, held = chip_with(6, 4, (values("ab", "one"),))
        torn = cut_behind(chip, 2, "0", done_by((("a", "two"),)))
        self.assertEqual(meaning(torn.image(), 4), ("map", 3, (("a", "two"), ("b", "one"))))
        self.assertEqual(self.look_at(torn, ({"a": "two", "b": "one"},))[1].number, 3)

    def test_cut_while_the_first_root_is_written(self):
        for pattern in PATTERNS:
            chip = Chip(4, 4, ((1, "cut", pattern), (2, "cut", pattern), (3, "cut", "f"), (4, "cut", "0f")))
            for lap in range(4):
                told = plain_meaning(chip.image())
                self.assertEqual(meaning(chip.image(), 4), told)
                self.assertIn(told, (("empty",), ("map", 1, ())))
                if told[0] == "map":
                    self.assertEqual((Ground(chip).number, chip.done), (1, lap))
                    break
                assert_refused(self, Cut, None, Ground, chip)
                self.assertTrue(wear_promised(chip))
                chip.again()
            self.assertEqual(Ground(chip).items(*ALL), ())
            self.assertTrue(wear_promised(chip))

    def test_pages_that_mean_nothing_in_the_rings_way(self):
        junk = {2: "0" * 256, 9: "l\nq\nq", 13: "root\n1\n9", 17: "f" * 255 + "0", 22: "x"}
        chip = written_chip(6, 4, {**junk, 0: "root\n5\n1", 1: "l\na\none\nb\ntwo"})
        held, after = {"a": "one", "b": "two"}, {"a": "1", "b": "2", "c": "3"}
        ground = opened_anew(chip)
        self.assertEqual((ground.number, ground.living, ground.room()), (5, (0, 1), 1 + 20))
        deeds = deeds_of(chip, done_by(items_of_dict(after)))
        for at in range(1, deeds + 1):
            for pattern in PATTERNS:
                torn = cut_behind(chip, at, pattern, done_by(items_of_dict(after)))
                found = plain_meaning(torn.image())[2]
                self.assertIn(found, (items_of_dict(held), items_of_dict(after)))
                opened_anew(torn).commit(items_of_dict(after))
                self.assertEqual(plain_meaning(torn.image())[2], items_of_dict(after))
        for lap in range(60):
            ground.commit((("a", str(lap)),))
            self.assertEqual(plain_meaning(chip.image())[2], (("a", str(lap)), ("b", "two")))
        self.assertGreater(min(chip.wear), 2)


if __name__ == "__main__":
    unittest.main()
