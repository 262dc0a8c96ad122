"""Sections 1 to 3: a story over all layers, with cuts, bad blocks and fallen cells; names of arguments; what was handed in."""

import copy
import random
import unittest

from file_stories import outcome
from ground_chips import PATTERNS, wear_promised
from plain_files import PlainFiles, some_deed
from plain_nodes import plain_wrong_keys
from reading import plain_living, plain_meaning
from refusals import same

from worneven import checker, chips, codes, deeds, desk, files, grounds, journals, maps, nodes, quotas, scripts, shell, walks
from worneven.errors import FlashError


class Story(unittest.TestCase):
    def test_by_hand_over_all_layers(self):
        chip = chips.Chip(10, 6)
        home = files.Files(chip)
        home.make_folder("/docs")
        home.put("/docs/note", "first draft")
        home.quota("/docs", 40)
        tree = home.tree()
        # The block goes bad, and the deed is done all the same.
        chip.doom(1, "bad", "0f")
        home.add_name("/docs/note", "/n")
        self.assertEqual((len(chip.bad), home.read("/n")), (1, "first draft"))
        told = []
        for lap, pattern in enumerate(("", "8", "", "f0", "0", "")):
            if pattern:
                chip.doom(2, "cut", pattern)
            before = home.tree()
            told.append(outcome(home.together, (("write", "/n", 11, f" {lap}"), ("put", "/docs/other", "x" * lap))))
            if pattern:
                chip.again()
                home = files.Files(chip)
                self.assertEqual(home.tree(), before)
        self.assertEqual((told, chip.cuts), ([None, ("Cut", None), None, ("Cut", None), ("Cut", None), None], 3))
        self.assertEqual(home.read("/n"), "first draft 5")
        for place in plain_living(chip.image()):
            outcome(chip.fade, place, 230, "0")
            outcome(chip.fade, place, 1, "0")
        image = chip.image()
        self.assertEqual(checker.judged(image, 6), ("right", home.tree()))
        self.assertEqual({word for place, word in enumerate(checker.states(image, 6)) if place in plain_living(image)}, {"root", "living"})
        means = grounds.meaning(image, 6)
        self.assertEqual((means[0], nodes.tree_of(means[2]), nodes.wrong_keys(means[2])), ("map", home.tree(), ()))
        told = home.tree()
        self.assertEqual((quotas.used(told, "/docs"), quotas.room_in(told, "/docs"), quotas.over(told)), (18, 22, ()))
        self.assertEqual((walks.holding(told, "/", "draft"), walks.deepest(told)), (("/docs/note", "/n"), 2))
        self.assertEqual((len(told), len(tree), nodes.tree_of(nodes.items_of(told))), (5, 3, told))
        self.assertTrue(wear_promised(chip))

    def test_drawn_stories_to_the_end_of_the_chip(self):
        """Cuts, bad blocks up to the last one, a fallen cell of each page: the tree is the told one, however often it is opened."""
        for seed in range(8):
            chance = random.Random(seed)
            chip, plain = chips.Chip(*((12, 6), (16, 4), (9, 9))[seed % 3]), PlainFiles()
            home = files.Files(chip)
            for lap in range(70):
                if chance.random() < 0.3:
                    chip.doom(chance.randint(1, 6), chance.choice(("cut", "bad", "cut")), chance.choice(PATTERNS))
                behind, deed = PlainFiles(), some_deed(chance, plain)
                behind.root = plain.root
                try:
                    behind.do(*deed)
                except Exception:
                    behind.root = plain.root
                found = outcome(getattr(home, deed[0]), *deed[1:])
                if found == ("Cut", None):
                    chip.again()
                    for time in range(chance.randint(1, 3)):
                        home = files.Files(chip)
                    plain = behind if home.tree() == behind.tree() else plain
                elif found is None:
                    plain = behind
                self.fall(chance, chip)
                self.assertEqual((home.tree(), files.Files(chip).tree()), (plain.tree(), plain.tree()))
                self.assertEqual(plain_wrong_keys(plain_meaning(chip.image())[2]), ())
                self.assertTrue(wear_promised(chip))

    def fall(self, chance, chip):
        for place in range(chip.blocks * chip.pages):
            if chance.random() < 0.5:
                outcome(chip.fade, place, chance.randrange(256), chance.choice("0123"))

    def test_a_script_tells_what_the_plain_deeds_tell(self):
        lines = ["mkdir /d", "put /d/a one", "ln /d/a /b", "write /b 3  more", "mv /d /e", "trim /e/a 5", "quota /e 5", "put /e/a longer", "rm /b"]
        plain = scripts.played("\n".join(["script 16 8"] + lines))
        for at in range(1, 20):
            for number in range(len(lines)):
                rows = lines[:number] + [f"cut {at} 0f"] + lines[number:number + 1] + ["on", lines[number]] + lines[number + 1:]
                told = scripts.played("\n".join(["script 16 8"] + rows))
                if told[number + 1] == "cut":
                    # What was cut is done once more: it is done now, or it was, and is refused or alters nothing.
                    self.assertEqual(told[number + 4:], plain[number + 1:], rows)


class Arguments(unittest.TestCase):
    def calls(self):
        """Functions and methods with right arguments by name, and an object of their own where they need one."""
        chip = chips.Chip(8, 4)
        home = files.Files(chip)
        home.put("/a", "hello")
        image, tree, items = chip.image(), home.tree(), nodes.items_of(home.tree())
        table = shell.Shell(8, 4)
        bench = desk.Desk(8, 4)
        for name, function, arguments in (
            ("used", quotas.used, {"tree": tree, "path": "/"}), ("over", quotas.over, {"tree": tree}), ("room_in", quotas.room_in, {"tree": tree, "path": "/"}),
            ("states", checker.states, {"image": image, "pages": 4}), ("fallen", checker.fallen, {"image": image, "pages": 4}),
            ("judged", checker.judged, {"image": image, "pages": 4}), ("health", checker.health, {"chip": chip}),
            ("meaning", grounds.meaning, {"image": image, "pages": 4}), ("told_room", grounds.told_room, {"entries": 1, "good": 8, "pages": 4}),
            ("walk", walks.walk, {"tree": tree, "path": "/"}), ("tree_of", nodes.tree_of, {"items": items}), ("opened", codes.opened, {"cells": image[0]}),
            ("map_items", maps.map_items, {"look": {0: "l\na\nb"}.get, "root": 0, "low": "a", "high": "b"}),
            ("read", home.read, {"path": "/a"}), ("names", home.names, {"path": "/"}), ("look", home.look, {"path": "/a"}),
            ("played", scripts.played, {"text": "script 8 4\nput /a x\nls /"}), ("trees", scripts.trees, {"text": "script 8 4\nput /a x"}),
            ("cuts", scripts.cuts, {"text": "script 8 4\nput /a x", "pattern": "0f"}), ("say", table.say, {"line": "ls /"}),
            ("tried", bench.tried, {"lines": ("put /a x", "ls /")}), ("journal", journals.journal, {"desk": bench}),
            ("read_journal", journals.read_journal, {"text": "chip 8 4\nput /a x"}),
        ):
            yield name, function, arguments

    def test_by_position_and_by_name_again_and_again(self):
        for name, function, arguments in self.calls():
            first = function(**arguments)
            for lap in range(2):
                self.assertTrue(same(function(*arguments.values()), first), name)
                self.assertTrue(same(function(**dict(reversed(list(arguments.items())))), first), name)

    def test_what_was_handed_in_is_as_it_was(self):
        """Lists and dicts, too, within values that are refused."""
        home = files.Files(chips.Chip(8, 4))
        held = (["/a", {"b": [1]}], {"c": ["d"]}, ("put", ["/a"], {"text": "x"}), [("put", "/a", "x")], (("/", ("folder", [5])),))
        for value in held:
            before = copy.deepcopy(value)
            for deed in (
                lambda: home.put(value, value), lambda: home.put("/a", value), lambda: home.together(value), lambda: home.together((value,)), lambda: home.move("/", value),
                lambda: home.quota("/", value), lambda: home.read(value), lambda: quotas.used(value, value), lambda: quotas.over(value), lambda: checker.judged(value, 4),
                lambda: checker.states(value, value), lambda: scripts.played(value), lambda: scripts.cuts("script 8 4", value), lambda: shell.Shell(value, value),
                lambda: shell.Shell(8, 4).say(value), lambda: desk.Desk(8, 4).tried(value), lambda: journals.read_journal(value), lambda: walks.walk(value, value),
            ):
                with self.assertRaises(FlashError) as caught:
                    deed()
                self.assertTrue(same(value, before), caught.exception)

    def test_a_row_of_deeds_is_as_it_was(self):
        home = files.Files(chips.Chip(8, 4))
        row = (("put", "/a", "x"), ("quota", "/", None))
        home.together(row)
        self.assertEqual(row, (("put", "/a", "x"), ("quota", "/", None)))
        self.assertEqual(sorted(deeds.DEEDS), sorted(deeds.VALUES))


if __name__ == "__main__":
    unittest.main()
