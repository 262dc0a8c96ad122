"""Section 11: what a checker tells of images, page by page, by an own reading of the cells, and of chips."""

import random
import unittest

from file_stories import BARE, Pair, outcome
from ground_chips import PATTERNS, with_faults, written_chip
from plain_files import some_deed
from plain_nodes import plain_items, plain_wrong_keys
from reading import EMPTY, NoMap, look_in, plain_map, plain_meaning, plain_newest, plain_text
from refusals import assert_refused, nested, values_of_all_kinds
from sealing import plain_sealed, with_cell

from worneven.checker import fallen, health, judged, states
from worneven.chips import Chip
from worneven.errors import BadImage, BadNumber
from worneven.files import Files
from worneven.grounds import Ground
from worneven.nodes import items_of, tree_of

WORDS = ("empty", "torn", "root", "living", "old")


def plain_states(image):
    newest, living = plain_newest(image), []
    if newest is not None:
        try:
            plain_map(look_in(image), newest[2], living)
        except NoMap:
            living = []
    told = []
    for place, cells in enumerate(image):
        if plain_text(cells) is None:
            told.append("empty" if cells == EMPTY else "torn")
        elif newest is not None and place == newest[1]:
            told.append("root")
        else:
            told.append("living" if place in living else "old")
    return tuple(told)


def plain_fallen(image):
    """Cells that are less than those of the sealed page of the text that is told there."""
    told = []
    for place, cells in enumerate(image):
        if plain_text(cells) is not None:
            page = plain_sealed(plain_text(cells))
            told += [(place, at) for at in range(256) if cells[at] != page[at]]
    return tuple(told)


def breaks_quota(tree):
    for path, what in tree:
        if what[0] == "folder" and what[1] is not None:
            beneath = {row[1][2]: row[1][1] for row in tree if row[1][0] == "file" and row[0].startswith(path.rstrip("/") + "/")}
            if sum(len(text) for text in beneath.values()) > what[1]:
                return True
    return False


def plain_judged(image):
    found = [place for place, cells in enumerate(image) if plain_text(cells) is not None]
    if not found:
        return ("none",)
    newest = plain_newest(image)
    if newest is None:
        return "wrong", found[0], "root"
    try:
        items = tuple(plain_map(look_in(image), newest[2]))
    except NoMap:
        return "wrong", newest[1], "map"
    if not items:
        return "right", BARE
    if plain_wrong_keys(items) or breaks_quota(tree_of(items)):
        return "wrong", newest[1], "tree"
    return "right", tree_of(items)


def plain_health(chip):
    told, wear = plain_states(chip.image()), [wear for block, wear in enumerate(chip.wear) if block not in chip.bad] or [0]
    rows = [(word, told.count(word)) for word in WORDS]
    return tuple(rows) + (("fallen", len(plain_fallen(chip.image()))), ("bad", len(chip.bad)), ("least", min(wear)), ("most", max(wear)))


def chip_with_items(blocks, pages, items):
    chip = Chip(blocks, pages)
    ground = Ground(chip)
    for at in range(0, len(items), 20):
        ground.commit(items[at:at + 20])
    return chip


class Told(unittest.TestCase):
    def check(self, image, pages):
        """All that is told of the image; what it is judged."""
        self.assertEqual(states(image, pages), plain_states(image))
        self.assertEqual(fallen(image, pages), plain_fallen(image))
        told = judged(image, pages)
        self.assertEqual(told, plain_judged(image))
        means = plain_meaning(image)
        is_right = means == ("empty",) or (means[0] == "map" and (means[2] == () or not plain_wrong_keys(means[2]) and not breaks_quota(tree_of(means[2]))))
        self.assertEqual(told[0] in ("right", "none"), is_right)
        self.assertLessEqual(states(image, pages).count("root"), 1)
        return told

    def check_chip(self, chip):
        self.assertEqual(health(chip), plain_health(chip))
        return self.check(chip.image(), chip.pages)


class OfFiles(Told):
    def story(self, seed, with_faults):
        chance = random.Random(seed)
        pair = Pair(self, *((16, 8), (8, 4), (12, 6))[seed % 3])
        for lap in range(32):
            if with_faults and chance.random() < 0.3:
                pair.chip.doom(chance.randint(1, 5), chance.choice(("cut", "cut", "bad")), chance.choice(PATTERNS))
            before = pair.files.tree()
            deed = some_deed(chance, pair.plain)
            found = outcome(getattr(pair.files, deed[0]), *deed[1:])
            told = self.check_chip(pair.chip)
            if found == ("Cut", None):
                self.check_chip(pair.chip)
                pair.chip.again()
                pair.files = Files(pair.chip)
                self.assertEqual(told, ("right", pair.files.tree()))
                found = None if pair.files.tree() != before else found
            elif found is not None:
                self.assertEqual(pair.files.tree(), before)
            self.assertEqual(self.check_chip(pair.chip), ("right", pair.files.tree()))
            place = chance.randrange(pair.chip.blocks * pair.chip.pages)
            outcome(pair.chip.fade, place, chance.randrange(256), chance.choice("0123"))
            if found is None:
                pair.plain.do(*deed)
        return pair

    def test_images_behind_deeds(self):
        for seed in range(6):
            self.story(seed, False)

    def test_images_behind_deeds_cuts_bad_blocks_and_fallen_cells(self):
        chips = [self.story(20 + seed, True).chip for seed in range(9)]
        self.assertGreater(sum(chip.cuts for chip in chips), 20)
        self.assertGreater(sum(len(chip.bad) for chip in chips), 8)
        self.assertGreater(sum(health(chip)[5][1] for chip in chips), 8)

    def test_ahead_of_the_first_root_and_at_each_cut_of_the_first_deeds(self):
        self.assertEqual(self.check_chip(Chip(4, 4)), ("none",))
        for at in range(1, 4):
            for pattern in PATTERNS:
                chip = Chip(4, 4, ((at, "cut", pattern),))
                self.assertEqual(outcome(Files, chip), ("Cut", None))
                self.assertIn(self.check_chip(chip), (("none",), ("right", BARE)))

    def test_fallen_cells_of_every_page(self):
        pair = Pair(self, deeds=(("make_folder", "/d"), ("put", "/d/a", "x" * 40), ("add_name", "/d/a", "/b")))
        chance, many = random.Random(5), 0
        for place in range(16 * 8):
            if pair.chip.read(place) != EMPTY:
                cell = chance.choice([at for at in range(256) if pair.chip.read(place)[at] > "0"])
                pair.chip.fade(place, cell, "0")
                many += 1
        self.assertEqual(self.check_chip(pair.chip), ("right", pair.plain.tree()))
        self.assertEqual((len(fallen(pair.chip.image(), 8)), health(pair.chip)[5]), (many, ("fallen", many)))


class OfImages(Told):
    def image(self):
        chip = Chip(8, 4)
        files = Files(chip)
        files.make_folder("/d")
        files.put("/d/a", "twenty signs and one.")
        files.quota("/d", 30)
        return chip.image()

    def test_pages_taken_out_torn_exchanged_and_raised(self):
        image = self.image()
        self.assertEqual(self.check(image, 4)[0], "right")
        words = set()
        for place, cells in enumerate(image):
            if cells == EMPTY:
                continue
            others = [EMPTY, "0" * 256, cells[:255] + "0", "f" + cells[1:], with_cell(cells, 3, "f"), with_cell(cells, 3, "0"), cells[:128] + EMPTY[128:]]
            for other in others + [image[(place + step) % len(image)] for step in (1, 2, 5)]:
                told = self.check(image[:place] + (other,) + image[place + 1:], 4)
                words.add(told[0] if told[0] != "wrong" else told[2])
            second = (place + 3) % len(image)
            row = list(image)
            row[place], row[second] = row[second], row[place]
            self.check(tuple(row), 4)
        self.assertEqual(words, {"right", "map"})

    def test_pages_put_in(self):
        image = self.image()
        free = [place for place, cells in enumerate(image) if cells == EMPTY][3]
        newest = plain_newest(image)
        for text, word in (
            ("root\n999\n-", "right"), ("root\n999\n31", "map"), ("root\n999\n0", "map"), (f"root\n999\n{free}", "map"), ("root\n999\n99", "map"),
            (f"root\n999\n{newest[2]}", "right"), ("root\n1\n-", "right"), (f"root\n{newest[0]}\n-", "right"), ("root\n0999\n-", "right"),
            ("root\n999\n-\n", "right"), ("root\n999", "right"), ("", "right"), ("l\na\nb", "right"), ("Root\n999\n-", "right"),
        ):
            told = self.check(image[:free] + (plain_sealed(text),) + image[free + 1:], 4)
            self.assertEqual(told[0] if told[0] != "wrong" else told[2], word, text)
        # Of two roots with the same number the one at the least place counts.
        for place, expected in ((free, ("right", tree_of(plain_meaning(image)[2]))), (0, ("right", BARE))):
            told = self.check(image[:place] + (plain_sealed(f"root\n{newest[0]}\n-"),) + image[place + 1:], 4)
            self.assertEqual(told, expected)

    def test_all_roots_gone(self):
        image = self.image()
        rest = tuple(EMPTY if (plain_text(cells) or "").startswith("root") else cells for cells in image)
        least = [place for place, cells in enumerate(rest) if cells != EMPTY][0]
        self.assertEqual(self.check(rest, 4), ("wrong", least, "root"))
        self.assertEqual(self.check(rest[:least] + ("0" * 256,) + rest[least + 1:], 4)[0:3:2], ("wrong", "root"))
        self.assertEqual(self.check((EMPTY,) * 32, 4), ("none",))
        self.assertEqual(self.check(("0" * 256,) * 32, 4), ("none",))
        self.assertEqual(self.check((EMPTY,) * 31 + (plain_sealed("x"),), 4), ("wrong", 31, "root"))

    def test_maps_that_are_no_tree_or_break_a_quota(self):
        tree = (
            ("/", ("folder", 40)), ("/a", ("file", "x" * 13, ("/a", "/d/b"))), ("/d", ("folder", 13)), ("/d/b", ("file", "x" * 13, ("/a", "/d/b"))),
            ("/e", ("folder", None)),
        )
        items = items_of(tree)
        self.assertEqual(items, plain_items(tree))
        self.assertEqual(self.check_chip(chip_with_items(16, 8, items)), ("right", tree))
        for at, (key, value) in enumerate(items):
            told = self.check_chip(chip_with_items(16, 8, items[:at] + items[at + 1:]))
            self.assertEqual((told[0], told[-1]), ("wrong", "tree"), key)
            for other in ("d 12", "d 39", "d", "f 13 2", "0004", "x", "d 040", "xxxxxxxxxxxx"):
                self.check_chip(chip_with_items(16, 8, items[:at] + ((key, other),) + items[at + 1:]))
        for path, quota, word in (("/d", 12, "wrong"), ("/d", 13, "right"), ("/", 12, "wrong"), ("/", 13, "right"), ("/e", 0, "right")):
            rows = tuple((at, ("folder", quota)) if at == path else (at, what) for at, what in tree)
            told = self.check_chip(chip_with_items(16, 8, items_of(rows)))
            self.assertEqual(told[0], word)
            if word == "wrong":
                self.assertEqual(told[2], "tree")
        for key in ("a", "n0000", "n1", "e0001A", "t000150"):
            told = self.check_chip(chip_with_items(16, 8, tuple(sorted(items + ((key, "d"),)))))
            self.assertEqual((told[0], told[-1]), ("wrong", "tree"))

    def test_a_map_without_keys_counts_as_the_root_folder(self):
        for texts in ({0: "root\n1\n-"}, {5: "root\n1\n-", 7: "l\na\nb"}, {3: "root\n7\n-", 4: "root\n6\n7"}):
            self.assertEqual(self.check_chip(written_chip(4, 4, texts)), ("right", BARE))

    def test_maps_that_are_none(self):
        for texts in (
            {0: "root\n1\n0"}, {0: "root\n1\n1"}, {0: "root\n1\n16"}, {0: "root\n1\n1", 1: "f\na\n2\nb\n1"}, {0: "root\n1\n1", 1: "f\na\n2\nb\n3", 2: "l\na\nx"},
            {0: "root\n1\n1", 1: "l\nb\nx\na\ny"}, {0: "root\n1\n1", 1: "f\na\n2\nc\n3", 2: "l\na\nx\nb\ny", 3: "l\nd\nx\ne\ny"},
        ):
            self.assertEqual(self.check_chip(written_chip(4, 4, texts)), ("wrong", 0, "map"))

    def test_images_of_other_sizes(self):
        image = self.image()
        for pages in (4, 8):
            for blocks in (4, 8, 16, 64):
                told = (image + (EMPTY,) * 1024)[:blocks * pages]
                if len(told) >= 32:
                    self.assertEqual(self.check(told, pages)[0], "right")
        self.check(image[16:] + image[:16], 4)


class OfChips(Told):
    def test_all_blocks_bad(self):
        chip = Chip(5, 4)
        Files(chip).put("/a", "kept")
        for block in range(5):
            chip = with_faults(chip, ((1, "bad", "f"),))
            chip.write(chip.pages * block + 3, "0" * 256) if chip.read(chip.pages * block + 3) == EMPTY else chip.erase(block)
        self.assertEqual(chip.bad, (0, 1, 2, 3, 4))
        self.assertEqual(health(chip)[6:], (("bad", 5), ("least", 0), ("most", 0)))
        self.check_chip(chip)

    def test_wear_of_good_blocks_alone(self):
        chip = Chip(4, 4, ((6, "bad", "0"),))
        for block in (0, 1, 1, 2, 2, 2, 3):
            chip.erase(block)
        self.assertEqual((chip.wear, chip.bad), ((1, 2, 3, 1), (2,)))
        self.assertEqual(health(chip)[6:], (("bad", 1), ("least", 1), ("most", 2)))
        self.check_chip(chip)

    def test_without_current_as_with_it(self):
        chip = Chip(8, 4, ((6, "cut", "0f"),))
        files = Files(chip)
        files.put("/a", "x")
        self.assertEqual(outcome(files.put, "/a", "y"), ("Cut", None))
        told = health(chip), states(chip.image(), 4), judged(chip.image(), 4)
        self.check_chip(chip)
        chip.again()
        self.assertEqual((health(chip), states(chip.image(), 4), judged(chip.image(), 4)), told)

    def test_kinds_names_and_equal_results(self):
        chip = Chip(4, 4)
        Files(chip)
        image = chip.image()
        self.assertEqual(states(pages=4, image=image), states(image, 4))
        self.assertEqual((fallen(pages=4, image=image), judged(pages=4, image=image)), ((), ("right", BARE)))
        self.assertEqual(health(chip=chip), health(chip))
        self.assertEqual({type(told) for told in (states(image, 4), fallen(image, 4), judged(image, 4), health(chip), health(chip)[0])}, {tuple})
        self.assertEqual([word for word, _ in health(chip)], list(WORDS) + ["fallen", "bad", "least", "most"])


class CheckerRefusals(unittest.TestCase):
    def refuse(self, error, value, image, pages):
        for told in (states, fallen, judged):
            assert_refused(self, error, value, told, image, pages)

    def test_pages(self):
        for pages in values_of_all_kinds() + ["4", "", 3, 17, 0, -4, 64, 10 ** 11]:
            for image in ((EMPTY,) * 16, None, (), [EMPTY]):
                self.refuse(BadNumber, pages, image, pages)

    def test_images(self):
        others = values_of_all_kinds() + [0, EMPTY, "f" * 4096, [EMPTY] * 16, {0: EMPTY}, nested(4)]
        others += [(EMPTY,) * 15 + (cells,) for cells in ("", "f" * 255, "f" * 257, "F" * 256, "g" * 256, None, 0, ["f"], (EMPTY,), True)]
        for image in others:
            self.refuse(BadImage, image, image, 4)

    def test_how_many_pages_an_image_has(self):
        for pages in range(4, 17):
            for many in (0, 1, pages, 3 * pages, 4 * pages - 1, 4 * pages + 1, 5 * pages - 1, 64 * pages + 1, 65 * pages):
                self.refuse(BadImage, (EMPTY,) * many, (EMPTY,) * many, pages)
            for many in (4 * pages, 5 * pages, 64 * pages):
                self.assertEqual(judged((EMPTY,) * many, pages), ("none",))


if __name__ == "__main__":
    unittest.main()
