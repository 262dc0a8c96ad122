"""Section 9: long rows of drawn deeds beside a plain tree, and rows of deeds done together."""

import random
import unittest

from file_stories import Pair
from plain_files import PlainFiles, Refused, some_deed
from reading import plain_meaning

from worneven.files import Files
from worneven.nodes import tree_of, wrong_keys

SIZES = ((16, 8), (12, 4), (8, 6), (20, 16), (24, 8))
NAMES = ("make_folder", "put", "write", "cut_to", "add_name", "remove", "move", "quota")


class FileRows(unittest.TestCase):
    def test_drawn_deeds_of_all_kinds(self):
        outcomes = {}
        for seed in range(40):
            chance = random.Random(seed)
            pair = Pair(self, *SIZES[seed % len(SIZES)])
            for lap in range(90):
                deed = some_deed(chance, pair.plain)
                found = pair.say(*deed)
                key = (deed[0], None if found is None else found[0])
                outcomes[key] = outcomes.get(key, 0) + 1
                if lap % 6 == 0:
                    pair.look_round(chance)
                if lap % 15 == 0:
                    pair.files = Files(pair.chip)
            items = plain_meaning(pair.chip.image())[2]
            self.assertEqual((wrong_keys(items), tree_of(items)), ((), pair.plain.tree()))
        for name in NAMES:
            self.assertGreater(outcomes[name, None], 15, name)
        told = {name for name, error in outcomes if error == "OverQuota"}
        self.assertGreaterEqual(told, {"put", "write", "quota"})

    def test_files_that_were_opened_long_ago_go_on_as_those_opened_just_now(self):
        for seed in range(6):
            chance = random.Random(100 + seed)
            pair = Pair(self, *((8, 4), (16, 8), (6, 5))[seed % 3])
            for lap in range(70):
                deed = some_deed(chance, pair.plain)
                twin = Pair(self)
                twin.chip, twin.plain.root = pair.chip.copy(), pair.plain.root
                twin.files = Files(twin.chip)
                self.assertEqual(twin.say(*deed), pair.say(*deed))
                self.assertTrue(twin.chip == pair.chip)

    def test_the_same_text_over_and_over_wears_evenly(self):
        pair = Pair(self, 6, 4)
        for lap in range(200):
            pair.files.put("/a", str(lap))
        pair.plain.do("put", "/a", "199")
        pair.look_round(random.Random(0))
        self.assertGreater(min(pair.chip.wear), 5)
        self.assertLessEqual(max(pair.chip.wear), min(pair.chip.wear) + 1)


def some_row(chance, plain, many, right):
    """A row of drawn deeds, each of which is right where it stands, or any."""
    twin, deeds = PlainFiles(), []
    twin.root = plain.root
    while len(deeds) < many:
        deed = some_deed(chance, twin)
        try:
            twin.do(*deed)
            deeds.append(deed)
        except Refused:
            if not right:
                deeds.append(deed)
    return tuple(deeds)


class Together(unittest.TestCase):
    def test_drawn_rows(self):
        done = 0
        for seed in range(25):
            chance = random.Random(seed)
            pair = Pair(self, 24, 8)
            for lap in range(14):
                deeds = some_row(chance, pair.plain, chance.choice((0, 1, 2, 5, 20)), chance.random() < 0.7)
                number = pair.files.ground.number
                found = pair.say_all(deeds)
                done += found is None and len(deeds) > 1
                self.assertLessEqual(pair.files.ground.number - number, 3)
                pair.look_round(chance, 2)
        self.assertGreater(done, 80)

    def test_none_and_twenty(self):
        pair = Pair(self, 32, 8)
        image = pair.chip.image()
        self.assertIsNone(pair.say_all(()))
        self.assertEqual(pair.chip.image(), image)
        number = pair.files.ground.number
        self.assertIsNone(pair.say_all(tuple(("put", f"/f{lap}", "x" * lap) for lap in range(20))))
        self.assertEqual((pair.files.ground.number, len(pair.files.names("/"))), (number + 1, 20))

    def test_a_refused_deed_amid_others(self):
        pair = Pair(self, deeds=(("make_folder", "/d"), ("put", "/a", "one")))
        image = pair.chip.image()
        for refused, error in (
            (("remove", "/d/x"), ("NoPath", "/d/x")), (("put", "/d", "x"), ("IsFolder", "/d")), (("make_folder", "/b"), ("There", "/b")),
            (("cut_to", "/a", 4), ("BadSpan", 4)), (("put", "/c", 5), ("BadText", 5)), (("quota", "/", 2), ("OverQuota", "/")),
        ):
            for behind in ((), (("remove", "/no"),), (("put", "/z", "z"),)):
                deeds = (("put", "/b", "two"), ("move", "/a", "/d/a"), ("add_name", "/d/a", "/a"), refused) + behind
                self.assertEqual(pair.say_all(deeds), error)
                self.assertEqual(pair.chip.image(), image)

    def test_each_deed_stands_on_those_ahead_of_it(self):
        pair = Pair(self)
        self.assertIsNone(pair.say_all((
            ("make_folder", "/x"), ("put", "/x/a", "hello"), ("move", "/x", "/y"), ("write", "/y/a", 5, " you"), ("add_name", "/y/a", "/b"),
            ("cut_to", "/b", 7), ("remove", "/y/a"), ("remove", "/y"), ("make_folder", "/x"), ("move", "/b", "/x/b"),
        )))
        self.assertEqual((pair.files.read("/x/b"), pair.files.names("/")), ("hello y", ("x",)))

    def test_deeds_that_leave_all_as_it_was_write_nothing(self):
        pair = Pair(self, deeds=(("put", "/a", "one"),))
        image = pair.chip.image()
        self.assertIsNone(pair.say_all((("put", "/b", "x"), ("move", "/a", "/c"), ("remove", "/b"), ("move", "/c", "/a"))))
        self.assertEqual(pair.chip.image(), image)

    def test_a_quota_that_holds_only_behind_the_last_deed_is_broken_where_it_stands(self):
        pair = Pair(self, deeds=(("make_folder", "/q"), ("put", "/q/a", "12345"), ("quota", "/q", 5)))
        longer, shorter = ("put", "/q/b", "123"), ("put", "/q/a", "12")
        self.assertEqual(pair.say_all((longer, shorter)), ("OverQuota", "/q"))
        self.assertIsNone(pair.say_all((shorter, longer)))
        self.assertEqual(pair.say_all((("quota", "/q", 4), ("remove", "/q/b"))), ("OverQuota", "/q"))
        self.assertIsNone(pair.say_all((("quota", "/q", None), ("put", "/q/c", "x" * 50), ("remove", "/q/c"), ("quota", "/q", 5))))

    def test_names_that_are_too_many_only_amid_a_row(self):
        pair = Pair(self, 64, 16, (("put", "/f", ""),))
        for lap in range(4):
            deeds = tuple(("add_name", "/f", f"/n{lap}-{number}") for number in range(20))
            self.assertIsNone(pair.say_all(deeds))
        self.assertIsNone(pair.say_all(tuple(("add_name", "/f", f"/m{number}") for number in range(18))))
        self.assertEqual(len(pair.files.look("/f")[2]), 99)
        self.assertEqual(pair.say_all((("add_name", "/f", "/o"), ("remove", "/o"))), ("Full", 99))
        self.assertIsNone(pair.say_all((("remove", "/m3"), ("add_name", "/f", "/o"))))


class NoRoom(unittest.TestCase):
    def filled(self, blocks, pages):
        """Files with one text behind another, until one is refused for want of room."""
        pair = Pair(self, blocks, pages)
        for lap in range(1000):
            if pair.say("put", f"/f{lap}", "x" * (13 * (lap % 4))) == ("Full", None):
                return pair
        return self.fail("never full")

    def test_full_changes_nothing_of_the_tree(self):
        for blocks, pages in ((4, 4), (5, 4), (8, 4), (4, 16)):
            pair = self.filled(blocks, pages)
            tree = pair.files.tree()
            for lap in range(3):
                self.assertEqual(pair.say("put", "/new", "y" * 100), ("Full", None))
                self.assertEqual(pair.say_all((("put", "/new", "y" * 100), ("make_folder", "/d"))), ("Full", None))
                self.assertEqual((pair.files.tree(), Files(pair.chip.copy()).tree()), (tree, tree))
            # What else is wrong is told ahead of it.
            self.assertEqual(pair.say("put", "/no/x", "y" * 100), ("NoPath", "/no"))
            self.assertEqual(pair.say_all((("put", "/new", "y" * 100), ("put", "/new", None))), ("BadText", None))

    def test_a_full_chip_can_be_emptied(self):
        for blocks, pages in ((4, 4), (8, 4)):
            pair = self.filled(blocks, pages)
            for name in pair.files.names("/"):
                self.assertIsNone(pair.say("remove", "/" + name))
            self.assertIsNone(pair.say("put", "/new", "again"))

    def test_what_does_not_fit_amid_a_row_may_fit_behind_it(self):
        pair = self.filled(8, 4)
        self.assertEqual(pair.say("put", "/new", "y" * 200), ("Full", None))
        self.assertIsNone(pair.say_all((("put", "/new", "y" * 200), ("remove", "/new"), ("put", "/f0", ""))))


if __name__ == "__main__":
    unittest.main()
