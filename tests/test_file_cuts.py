"""Sections 1, 3 and 9: cuts at each write and erase of deeds, blocks that go bad, fallen cells; files opened anew."""

import random
import unittest

from file_stories import BARE, Pair, outcome, plain_outcome
from ground_chips import PATTERNS, WatchedChip, wear_promised, with_faults, written_chip
from plain_files import PlainFiles, some_deed
from reading import plain_meaning

from worneven.chips import Chip
from worneven.checker import judged
from worneven.errors import Cut, Full
from worneven.files import Files
from worneven.nodes import tree_of

START = (
    ("make_folder", "/d"), ("make_folder", "/e"), ("put", "/d/a", "twenty signs and one."), ("add_name", "/d/a", "/b"), ("put", "/c", "x" * 100),
    ("quota", "/d", 30),
)
DEEDS = {
    "a folder": (("make_folder", "/d/f"),),
    "a new file": (("put", "/d/n", "y" * 9),),
    "a longer text": (("put", "/c", "z" * 300),),
    "over what was there": (("write", "/b", 10, "#" * 15),),
    "a shorter text": (("cut_to", "/c", 5),),
    "another name": (("add_name", "/c", "/e/c"),),
    "a name less": (("remove", "/b"),),
    "a file gone": (("remove", "/c"),),
    "a folder moved": (("move", "/d", "/e/d"),),
    "a file replaced": (("move", "/c", "/b"),),
    "a quota": (("quota", "/", 500),),
    "a row of deeds": (
        ("make_folder", "/x"), ("move", "/d", "/x/old"), ("put", "/x/new", "n" * 70), ("remove", "/c"), ("add_name", "/b", "/c"), ("write", "/c", 0, "T"),
    ),
    "twenty deeds": tuple(("put", f"/f{lap}", "q" * 3 * lap) for lap in range(20)),
}


def tree_on(chip):
    """The told tree on the chip, by an own reading of its cells."""
    return tree_of(plain_meaning(chip.image())[2])


def started(blocks, pages, laps):
    """A chip behind the first deeds, and behind so many others that the ring goes on; and its plain tree."""
    chip, plain = Chip(blocks, pages), PlainFiles()
    files = Files(chip)
    for deed in START + tuple(("put", "/lap", str(lap)) for lap in range(laps)):
        getattr(files, deed[0])(*deed[1:])
        plain.do(*deed)
    return chip, plain


class TreeChip(WatchedChip):
    """A chip that looks, behind each write and erase, whether one of the trees that may lie there is on it."""

    may_be = None

    def watch(self):
        super().watch()
        if self.may_be is not None:
            assert tree_on(self) in self.may_be


class Cuts(unittest.TestCase):
    def cut_at_each(self, chip, deeds, before, after, patterns):
        """The deeds, cut at each write and erase; how many there are."""
        at = 1
        while True:
            for pattern in patterns:
                torn = with_faults(chip, ((at, "cut", pattern),))
                found = outcome(Files(torn).together, deeds)
                if found is None:
                    self.assertEqual(tree_on(torn), after)
                    return at - 1
                self.assertEqual(found, ("Cut", None))
                self.look_behind(torn, deeds, (before, after))
            at += 1

    def look_behind(self, torn, deeds, both):
        """Behind a cut: one of both trees, however often the chip is opened; and the deeds can be done on it."""
        self.assertIn(tree_on(torn), both)
        self.assertEqual(judged(torn.image(), torn.pages), ("right", tree_on(torn)))
        torn.again()
        image, tree = torn.image(), tree_on(torn)
        told = [Files(torn).tree(), Files(torn).tree(), Files(torn.copy()).tree()]
        self.assertEqual((told, torn.image()), ([tree] * 3, image))
        files = Files(torn)
        if tree == both[0]:
            files.together(deeds)
            self.assertEqual((files.tree(), tree_on(torn)), (both[1], both[1]))
        files.put("/next", "deed")
        self.assertEqual(Files(torn).read("/next"), "deed")
        self.assertTrue(wear_promised(torn))

    def test_each_write_and_erase_of_each_deed(self):
        for number, (name, deeds) in enumerate(sorted(DEEDS.items())):
            chip, plain = started(*((16, 8, 0), (10, 8, 60), (14, 4, 31))[number % 3])
            before = plain.tree()
            plain.do_all(deeds)
            with self.subTest(name):
                patterns = PATTERNS[:5:2] if number % 3 == 0 else PATTERNS[number % 2:4:2]
                many = self.cut_at_each(chip, deeds, before, plain.tree(), patterns)
                self.assertGreater(many, 1)

    def test_the_first_deeds_on_a_new_chip(self):
        for at in range(1, 4):
            for pattern in PATTERNS:
                chip = Chip(4, 4, ((at, "cut", pattern),))
                self.assertEqual(outcome(Files, chip), ("Cut", None))
                self.assertIn(judged(chip.image(), 4), (("none",), ("right", BARE)))
                chip.again()
                self.assertEqual([Files(chip).tree(), Files(chip).tree(), Files(chip.copy()).tree()], [BARE] * 3)
                Files(chip).put("/a", "on")
                self.assertEqual(Files(chip).read("/a"), "on")

    def test_cut_again_while_it_is_done_once_more(self):
        chip, plain = started(10, 6, 5)
        before = plain.tree()
        deeds = (("put", "/c", "again" * 30), ("remove", "/b"))
        plain.do_all(deeds)
        for first in range(1, 9):
            for second in range(1, 9):
                torn = with_faults(chip, ((first, "cut", "0f"), (first + second, "cut", PATTERNS[second % 4])))
                for lap in range(3):
                    if outcome(Files(torn).together, deeds) is None:
                        break
                    self.assertIn(tree_on(torn), (before, plain.tree()))
                    torn.again()
                self.assertEqual(Files(torn).tree(), plain.tree())
                self.assertTrue(wear_promised(torn))

    def test_without_current_nothing_is_written(self):
        chip, plain = started(16, 8, 0)
        torn = with_faults(chip, ((1, "cut", "f"),))
        self.assertEqual(outcome(Files(torn).put, "/z", "z"), ("Cut", None))
        image = torn.image()
        self.assertEqual(outcome(Files(torn).put, "/z", "z"), ("Cut", None))
        self.assertEqual(torn.image(), image)


class Rows(unittest.TestCase):
    def row(self, seed, rate, bad, laps=60):
        """Drawn deeds with cuts and blocks that go bad; the wear and the image are watched at each write and erase."""
        chance = random.Random(seed)
        pair = Pair(self)
        pair.chip = TreeChip(*((16, 8), (12, 4), (8, 6), (24, 4))[seed % 4])
        pair.files = Files(pair.chip)
        pair.cuts = 0
        for lap in range(laps):
            if chance.random() < rate:
                pair.chip.doom(chance.choice((1, 1, 2, 3, 5, 8)), "cut", chance.choice(PATTERNS))
            if chance.random() < bad:
                pair.chip.doom(chance.randint(1, 6), "bad", chance.choice(PATTERNS))
            self.fall(chance, pair.chip)
            self.deed(chance, pair)
            if lap % 8 == 0:
                pair.look_round(chance, 1)
        return pair

    def fall(self, chance, chip):
        """One cell of some page falls by itself, if none did there."""
        place, cell = chance.randrange(chip.blocks * chip.pages), chance.randrange(256)
        outcome(chip.fade, place, cell, chance.choice("0123"))

    def deed(self, chance, pair):
        deed = some_deed(chance, pair.plain)
        behind = PlainFiles()
        behind.root = pair.plain.root
        expected = plain_outcome(behind.do, *deed)
        both = (pair.plain.tree(), behind.tree())
        pair.chip.may_be = both
        found = outcome(getattr(pair.files, deed[0]), *deed[1:])
        if found == ("Cut", None):
            pair.cuts += 1
            tree = tree_on(pair.chip)
            self.assertIn(tree, both)
            pair.chip.again()
            pair.files = Files(pair.chip)
            pair.plain = behind if tree == both[1] else pair.plain
        elif found == ("Full", None):
            self.assertIsNone(expected)
        else:
            self.assertEqual(found, expected)
            pair.plain = behind
        self.assertEqual((pair.files.tree(), tree_on(pair.chip)), (pair.plain.tree(), pair.plain.tree()))

    def test_rows_with_cuts(self):
        pairs = [self.row(seed, 0.3, 0) for seed in range(8)]
        self.assertGreater(sum(pair.cuts for pair in pairs), 60)

    def test_rows_with_cuts_and_bad_blocks(self):
        pairs = [self.row(50 + seed, 0.15, 0.06) for seed in range(10)]
        self.assertGreater(sum(len(pair.chip.bad) for pair in pairs), 15)

    def test_until_no_block_is_left(self):
        chip = TreeChip(9, 4)
        files = Files(chip)
        files.put("/a", "kept")
        kept, full = "kept", 0
        for lap in range(60):
            chip.doom(1, "bad", PATTERNS[lap % len(PATTERNS)])
            chip.may_be = tuple(BARE + (("/a", ("file", text, ("/a",))),) for text in (kept, str(lap)))
            found = outcome(files.put, "/a", str(lap))
            kept = str(lap) if found is None else kept
            full += found == ("Full", None)
            self.assertEqual((files.read("/a"), Files(chip).read("/a")), (kept, kept))
        self.assertGreater(len(chip.bad), 6)
        self.assertGreater(full, 40)
        self.assertIsNone(outcome(files.put, "/a", kept))


class NoRoom(unittest.TestCase):
    def test_full_behind_writing_changes_nothing_of_the_tree(self):
        seen = 0
        for seed in range(30):
            chance = random.Random(seed)
            chip = Chip(9, 4)
            files = Files(chip)
            for name in "abc":
                files.put("/" + name, name * 20)
            tree, done = files.tree(), chip.done
            for at in range(1, 12):
                if chance.random() < 0.8:
                    chip.doom(at, "bad", chance.choice(PATTERNS))
            if outcome(files.put, "/b", "d" * 24) == ("Full", None):
                seen += chip.done > done
                self.assertEqual((files.tree(), tree_on(chip), Files(chip).tree()), (tree, tree, tree))
                self.assertEqual(judged(chip.image(), 4), ("right", tree))
        self.assertGreater(seen, 5)

    def test_files_on_a_chip_without_good_blocks(self):
        chip = written_chip(4, 4, {0: "root\n1\n-"}, (0, 1, 2, 3))
        with self.assertRaises(Full):
            Files(chip)
        self.assertEqual(judged(chip.image(), 4), ("right", BARE))

    def test_files_on_a_new_chip_that_goes_bad(self):
        chip = Chip(4, 4, tuple((at, "bad", "f") for at in range(1, 5)))
        self.assertEqual(outcome(Files, chip), ("Full", None))
        self.assertEqual(judged(chip.image(), 4), ("none",))

    def test_one_good_block_more_than_is_needed(self):
        chip = Chip(4, 4, ((2, "cut", "0"),))
        with self.assertRaises(Cut):
            Files(chip)
        chip.again()
        self.assertEqual(Files(chip).tree(), BARE)


if __name__ == "__main__":
    unittest.main()
