"""Section 9: what each deed of files does, by hand: texts, names, moves, quotas, and what is told of paths."""

import unittest

from file_stories import BARE, Pair

from worneven.chips import Chip
from worneven.files import Files
from worneven.grounds import Ground

LETTERS = "".join(chr(number) for number in range(32, 127) if number != 37)
SIZES = (0, 1, 11, 12, 13, 599, 600)


def text_of(size, first=0):
    return "".join(LETTERS[(first + at) % len(LETTERS)] for at in range(size))


class Opening(unittest.TestCase):
    def test_a_new_chip_gets_a_root_folder_without_names(self):
        chip = Chip(4, 4)
        files = Files(chip)
        self.assertEqual((files.tree(), files.names("/"), files.look("/")), (BARE, (), ("folder", 0, None, 0)))
        self.assertIs(type(files.ground), Ground)
        self.assertIs(files.ground.chip, chip)
        self.assertEqual(files.ground.items("!", "~" * 13), (("n0001", "d"),))
        self.assertEqual((files.ground.number, chip.done), (2, 3))

    def test_every_size_of_chip_has_room_for_that(self):
        for blocks, pages in ((4, 4), (4, 16), (64, 4), (64, 16), (5, 7)):
            self.assertEqual(Files(Chip(blocks, pages)).tree(), BARE)

    def test_nothing_is_written_where_there_are_files(self):
        chip = Chip(8, 4)
        Files(chip).put("/a", "kept")
        image, done = chip.image(), chip.done
        for lap in range(3):
            self.assertEqual(Files(chip).read("/a"), "kept")
        self.assertEqual((chip.image(), chip.done), (image, done))

    def test_a_ground_without_keys_gets_the_root_folder(self):
        chip = Chip(6, 4)
        ground = Ground(chip)
        ground.commit((("a", "1"),))
        ground.commit((("a", None),))
        files = Files(chip)
        self.assertEqual((files.tree(), files.ground.number), (BARE, 4))

    def test_the_map_of_files_is_a_tree_of_the_document(self):
        chip = Chip(16, 8)
        files = Files(chip)
        files.make_folder("/b")
        files.put("/b/x", "fourteen signs")
        files.add_name("/b/x", "/y")
        files.quota("/b", 20)
        items = dict(Ground(chip).items("!", "~" * 13))
        folder, file = items["e0001b"], items["e0001y"]
        self.assertEqual(items, {
            "n0001": "d", "e0001b": folder, "e0001y": file, f"n{folder}": "d 20", f"e{folder}x": file, f"n{file}": "f 14 2",
            f"t{file}00": "fourteen sig", f"t{file}01": "ns",
        })


class Texts(unittest.TestCase):
    def test_texts_of_all_sizes_one_behind_another(self):
        pair = Pair(self)
        for size in SIZES + SIZES[::-1] + (0, 600, 0):
            pair.done("put", "/a", text_of(size, size))
            self.assertEqual(pair.files.look("/a"), ("file", size, ("/a",)))
            self.assertEqual(Files(pair.chip.copy()).read("/a"), text_of(size, size))
        pair.refused("BadText", "x" * 601, "put", "/a", "x" * 601)
        pair.refused("BadText", "x" * 601, "put", "/b", "x" * 601)

    def test_every_sign_is_kept(self):
        pair = Pair(self)
        pair.done("put", "/a", LETTERS)
        pair.done("put", "/b", " " * 25)
        self.assertEqual((Files(pair.chip).read("/a"), Files(pair.chip).read("/b")), (LETTERS, " " * 25))

    def test_parts_written_over_at_each_place(self):
        pair = Pair(self)
        for size in (0, 1, 12, 25):
            for at in range(size + 1):
                for text in ("", "#", "twelve signs", "more than twelve"):
                    pair.done("put", "/a", text_of(size))
                    pair.done("write", "/a", at, text)
                    held = pair.files.read("/a")
                    self.assertEqual(held, text_of(size)[:at] + text + text_of(size)[at + len(text):])

    def test_writing_at_the_edges(self):
        pair = Pair(self, deeds=(("put", "/a", text_of(590)), ("put", "/b", "abc")))
        pair.refused("BadSpan", 590, "write", "/a", 590, "eleven more")
        pair.done("write", "/a", 590, "ten signs.")
        pair.done("write", "/a", 0, text_of(600, 7))
        pair.refused("BadSpan", 600, "write", "/a", 600, "x")
        pair.refused("BadSpan", 1, "write", "/a", 1, text_of(600))
        pair.done("write", "/a", 600, "")
        pair.refused("BadSpan", 601, "write", "/a", 601, "")
        for at in (4, -1, -3, 600, True, False, None, "1", (1,), [1]):
            pair.refused("BadSpan", at, "write", "/b", at, "x")
        pair.done("write", "/b", 3, "def")
        self.assertEqual(pair.files.read("/b"), "abcdef")

    def test_cut_to_each_size(self):
        pair = Pair(self)
        for size in (0, 1, 12, 13, 24, 37):
            for left in range(size + 1):
                pair.done("put", "/a", text_of(size))
                pair.done("cut_to", "/a", left)
                self.assertEqual(pair.files.read("/a"), text_of(size)[:left])
            for wrong in (size + 1, -1, True, None, "0", (0,)):
                pair.done("put", "/a", text_of(size))
                pair.refused("BadSpan", wrong, "cut_to", "/a", wrong)
        pair.done("put", "/a", text_of(600))
        for left in (600, 599, 588, 587, 12, 0):
            pair.done("cut_to", "/a", left)

    def test_what_alters_nothing_leaves_the_chip(self):
        pair = Pair(self, deeds=(("make_folder", "/d"), ("put", "/a", "abc"), ("quota", "/d", 5)))
        image = pair.chip.image()
        for deed in (
            ("put", "/a", "abc"), ("write", "/a", 0, "ab"), ("write", "/a", 3, ""), ("cut_to", "/a", 3), ("quota", "/d", 5),
            ("move", "/a", "/a"), ("move", "/d", "/d"), ("quota", "/", None),
        ):
            pair.done(*deed)
            self.assertEqual(pair.chip.image(), image)

    def test_each_deed_that_alters_something_is_one_commit(self):
        pair = Pair(self)
        for deed in (
            ("make_folder", "/d"), ("put", "/a", text_of(600)), ("write", "/a", 300, "#" * 30), ("cut_to", "/a", 290), ("add_name", "/a", "/d/b"),
            ("remove", "/a"), ("move", "/d", "/e"), ("quota", "/e", 999999), ("put", "/e/b", ""),
        ):
            number = pair.files.ground.number
            pair.done(*deed)
            self.assertEqual(pair.files.ground.number, number + 1)


class Names(unittest.TestCase):
    def test_a_file_with_names_in_several_folders(self):
        pair = Pair(self, deeds=(("make_folder", "/d"), ("make_folder", "/d/e"), ("put", "/a", "hello")))
        pair.done("add_name", "/a", "/d/b")
        pair.done("add_name", "/d/b", "/d/e/c")
        self.assertEqual(pair.files.look("/d/b"), ("file", 5, ("/a", "/d/b", "/d/e/c")))
        pair.done("write", "/d/e/c", 5, " you")
        self.assertEqual([pair.files.read(path) for path in ("/a", "/d/b", "/d/e/c")], ["hello you"] * 3)
        pair.done("put", "/d/b", "new")
        pair.done("remove", "/a")
        self.assertEqual((pair.files.read("/d/e/c"), pair.files.look("/d")), ("new", ("folder", 2, None, 3)))
        pair.done("remove", "/d/b")
        pair.done("remove", "/d/e/c")
        self.assertEqual(pair.files.tree(), (("/", ("folder", None)), ("/d", ("folder", None)), ("/d/e", ("folder", None))))

    def test_ninety_nine_names_and_no_hundredth(self):
        pair = Pair(self, 64, 16, (("put", "/f", "x"), ("make_folder", "/d")))
        for number in range(98):
            pair.files.add_name("/f", f"/{'d/' if number % 3 else ''}n{number}")
            pair.plain.do("add_name", "/f", f"/{'d/' if number % 3 else ''}n{number}")
        self.assertEqual((len(pair.files.look("/d/n1")[2]), pair.files.tree()), (99, pair.plain.tree()))
        for path in ("/f", "/d/n1", "/n0"):
            pair.refused("Full", 99, "add_name", path, "/one-more")
        pair.refused("There", "/n3", "add_name", "/f", "/n3")
        pair.refused("NoPath", "/no", "add_name", "/f", "/no/n")
        pair.done("quota", "/d", 1)
        pair.done("move", "/n0", "/d/moved")
        pair.refused("Full", 99, "add_name", "/f", "/n0")
        pair.done("remove", "/d/n1")
        pair.done("add_name", "/f", "/one-more")
        self.assertEqual(Files(pair.chip).tree(), pair.plain.tree())

    def test_names_are_ascending_by_themselves(self):
        pair = Pair(self)
        for name in ("b", "a", "a-b", "a.b", "0", "-", "...", "x" * 8, "a0"):
            pair.done("make_folder", "/" + name)
            pair.done("put", "/" + name + "/z", name)
        self.assertEqual(pair.files.names("/"), ("-", "...", "0", "a", "a-b", "a.b", "a0", "b", "x" * 8))
        self.assertEqual([path for path, _ in pair.files.tree()][5:9], ["/0", "/0/z", "/a", "/a-b"])

    def test_deep_folders(self):
        pair = Pair(self, 32, 16)
        for depth in range(1, 30):
            pair.done("make_folder", "/d" * depth)
        pair.done("put", "/d" * 29 + "/f", "deep")
        pair.done("move", "/d/d", "/e")
        self.assertEqual(pair.files.read("/e" + "/d" * 27 + "/f"), "deep")
        pair.refused("NoPath", "/d/d", "remove", "/d/d/d/d")


class Moves(unittest.TestCase):
    DEEDS = (
        ("make_folder", "/d"), ("make_folder", "/d/e"), ("make_folder", "/empty"), ("make_folder", "/d-d"), ("put", "/d/f", "six"),
        ("put", "/d/e/g", "ten"), ("put", "/h", "one"), ("add_name", "/h", "/d/h"), ("put", "/d-d/i", "i"),
    )

    def pair(self):
        return Pair(self, deeds=self.DEEDS)

    def test_into_what_lies_beneath(self):
        pair = self.pair()
        for other in ("/d/x", "/d/e", "/d/e/x", "/d/no/such", "/d/f", "/d/f/x"):
            pair.refused("Within", other, "move", "/d", other)
        pair.refused("NotFolder", "/h", "move", "/h", "/h/x")
        pair.done("move", "/d", "/d-e")
        pair.done("move", "/d-d", "/d-e/d-d")
        self.assertEqual(pair.files.names("/d-e"), ("d-d", "e", "f", "h"))

    def test_on_the_same_path_and_onto_another_name_of_the_same_file(self):
        pair = self.pair()
        for path in ("/d", "/h", "/d/e/g", "/empty"):
            pair.done("move", path, path)
        pair.done("move", "/h", "/d/h")
        self.assertEqual(pair.files.look("/d/h"), ("file", 3, ("/d/h",)))
        pair.refused("NoPath", "/h", "remove", "/h")
        pair.done("move", "/d/h", "/d/e/h")

    def test_over_files(self):
        pair = self.pair()
        pair.done("move", "/d/f", "/h")
        self.assertEqual((pair.files.read("/h"), pair.files.read("/d/h")), ("six", "one"))
        pair.done("move", "/d/e/g", "/d/h")
        self.assertEqual((pair.files.read("/d/h"), pair.files.look("/h")), ("ten", ("file", 3, ("/h",))))
        pair.refused("NotFolder", "/h", "move", "/empty", "/h")
        pair.refused("NotFolder", "/h", "move", "/d", "/h")

    def test_over_folders(self):
        pair = self.pair()
        for path in ("/h", "/d/f", "/d/e/g"):
            for other in ("/", "/d", "/empty", "/d/e"):
                pair.refused("IsFolder", other, "move", path, other)
        for path, other in (("/d/e", "/d"), ("/d/e", "/"), ("/d", "/"), ("/empty", "/d/e"), ("/empty", "/d"), ("/d-d", "/d")):
            pair.refused("NotEmptyFolder", other, "move", path, other)
        pair.done("move", "/d", "/empty")
        self.assertEqual((pair.files.names("/"), pair.files.names("/empty")), (("d-d", "empty", "h"), ("e", "f", "h")))
        self.assertEqual(pair.files.look("/h"), ("file", 3, ("/empty/h", "/h")))

    def test_of_the_root_folder(self):
        pair = self.pair()
        for other in ("/", "/x", "/d", "/no/x", "x", None):
            pair.refused("Within", "/", "move", "/", other)

    def test_through_what_is_not_there(self):
        pair = self.pair()
        for path in ("/d", "/h"):
            pair.refused("NoPath", "/no", "move", path, "/no/x")
            pair.refused("NoPath", "/no", "move", path, "/no/x/y")
            pair.refused("NotFolder", "/d/f" if path == "/h" else "/d-d/i", "move", path, "/d/f/x" if path == "/h" else "/d-d/i/x")
        pair.refused("NoPath", "/x", "move", "/x", "/x")
        pair.refused("BadPath", "x", "move", "/d", "x")

    def test_a_folder_keeps_its_quota_and_all_beneath(self):
        pair = self.pair()
        pair.done("quota", "/d", 9)
        pair.done("quota", "/d/e", 3)
        pair.done("move", "/d", "/empty")
        self.assertEqual((pair.files.look("/empty"), pair.files.look("/empty/e")), (("folder", 3, 9, 9), ("folder", 1, 3, 3)))


class Quotas(unittest.TestCase):
    def test_just_enough_and_one_too_little(self):
        pair = Pair(self, deeds=(("make_folder", "/d"), ("put", "/d/a", "12345")))
        pair.refused("OverQuota", "/d", "quota", "/d", 4)
        pair.refused("OverQuota", "/d", "quota", "/d", 0)
        pair.done("quota", "/d", 5)
        pair.refused("OverQuota", "/d", "put", "/d/a", "123456")
        pair.refused("OverQuota", "/d", "put", "/d/b", "1")
        pair.refused("OverQuota", "/d", "write", "/d/a", 5, "6")
        pair.done("write", "/d/a", 0, "54321")
        pair.done("put", "/d/b", "")
        pair.done("quota", "/d", 6)
        pair.done("write", "/d/b", 0, "x")
        pair.refused("OverQuota", "/d", "quota", "/d", 5)
        pair.done("cut_to", "/d/a", 0)
        pair.done("quota", "/d", 1)
        pair.done("quota", "/d", None)
        pair.done("quota", "/d", 999999)
        pair.refused("BadQuota", 1000000, "quota", "/d", 1000000)

    def test_a_quota_of_nothing(self):
        pair = Pair(self, deeds=(("quota", "/", 0), ("make_folder", "/d"), ("put", "/d/a", "")))
        pair.refused("OverQuota", "/", "put", "/d/a", "x")
        pair.refused("OverQuota", "/", "put", "/b", "x")
        pair.done("add_name", "/d/a", "/b")
        self.assertEqual(pair.files.look("/"), ("folder", 2, 0, 0))

    def test_folders_in_folders(self):
        pair = Pair(self)
        for path, quota in (("/a", 30), ("/a/b", 20), ("/a/b/c", 10), ("/a-b", 10)):
            pair.done("make_folder", path)
            pair.done("quota", path, quota)
        pair.done("put", "/a/b/c/f", "1234567890")
        pair.refused("OverQuota", "/a/b/c", "put", "/a/b/c/g", "x")
        pair.done("put", "/a/b/g", "1234567890")
        pair.refused("OverQuota", "/a/b", "put", "/a/b/h", "x")
        pair.refused("OverQuota", "/a", "put", "/a/b/c/h", "x" * 11)
        pair.done("put", "/a/h", "1234567890")
        pair.done("quota", "/", 31)
        pair.refused("OverQuota", "/a", "put", "/a/i", "x")
        pair.done("put", "/a-b/i", "x")
        pair.refused("OverQuota", "/", "put", "/a/b/c/h", "x" * 11)
        pair.refused("OverQuota", "/", "put", "/j", "x")

    def test_the_first_folder_by_paths_is_told(self):
        pair = Pair(self)
        for path in ("/a", "/a-b", "/a/z", "/b"):
            pair.done("make_folder", path)
        pair.done("put", "/f", "123")
        for path in ("/a", "/a-b", "/a/z", "/b"):
            pair.done("add_name", "/f", path + "/f")
            pair.done("quota", path, 3)
        pair.refused("OverQuota", "/a", "write", "/f", 3, "4")
        pair.done("quota", "/a", None)
        pair.refused("OverQuota", "/a-b", "write", "/f", 3, "4")
        pair.done("quota", "/a-b", None)
        pair.refused("OverQuota", "/a/z", "write", "/f", 3, "4")
        pair.done("quota", "/a/z", None)
        pair.refused("OverQuota", "/b", "put", "/f", "1234")
        pair.done("quota", "/b", 4)
        pair.done("put", "/f", "1234")

    def test_a_file_counts_once_in_each_folder(self):
        pair = Pair(self, deeds=(("make_folder", "/a"), ("make_folder", "/a/b"), ("put", "/a/f", "12345"), ("quota", "/a", 5)))
        pair.done("quota", "/a/b", 4)
        pair.refused("OverQuota", "/a/b", "add_name", "/a/f", "/a/b/f")
        pair.done("quota", "/a/b", 5)
        for other in ("/a/b/f", "/a/g", "/a/b/g", "/h"):
            pair.done("add_name", "/a/f", other)
        self.assertEqual([pair.files.look(path)[3] for path in ("/", "/a", "/a/b")], [5, 5, 5])
        pair.refused("OverQuota", "/a", "write", "/h", 5, "6")
        for path in ("/a/b/f", "/a/f", "/a/g"):
            pair.done("remove", path)
        self.assertEqual([pair.files.look(path)[3] for path in ("/", "/a", "/a/b")], [5, 5, 5])
        pair.done("remove", "/a/b/g")
        self.assertEqual([pair.files.look(path)[3] for path in ("/", "/a", "/a/b")], [5, 0, 0])

    def test_moves_and_names_into_folders_with_quotas(self):
        pair = Pair(self, deeds=(
            ("make_folder", "/q"), ("quota", "/q", 5), ("put", "/six", "123456"), ("put", "/five", "12345"), ("make_folder", "/d"), ("put", "/d/x", "1"),
        ))
        pair.refused("OverQuota", "/q", "move", "/six", "/q/six")
        pair.refused("OverQuota", "/q", "add_name", "/six", "/q/six")
        pair.done("add_name", "/five", "/q/five")
        pair.refused("OverQuota", "/q", "move", "/d", "/q/d")
        pair.done("move", "/five", "/q/again")
        pair.refused("OverQuota", "/q", "move", "/six", "/q/five")
        pair.done("remove", "/q/again")
        pair.done("put", "/q/five", "1234")
        pair.done("move", "/d", "/q/d")
        pair.done("put", "/four", "1234")
        pair.done("move", "/four", "/q/five")
        pair.refused("OverQuota", "/q", "move", "/six", "/q/d/x")
        self.assertEqual(pair.files.look("/q"), ("folder", 2, 5, 5))


class ByName(unittest.TestCase):
    def test_all_arguments_by_name(self):
        files = Files(chip=Chip(blocks=16, pages=8))
        self.assertIsNone(files.make_folder(path="/d"))
        self.assertIsNone(files.put(text="hello", path="/a"))
        self.assertIsNone(files.write(text="y", at=4, path="/a"))
        self.assertIsNone(files.cut_to(size=5, path="/a"))
        self.assertIsNone(files.add_name(other="/d/b", path="/a"))
        self.assertIsNone(files.move(other="/c", path="/a"))
        self.assertIsNone(files.quota(number=7, path="/d"))
        self.assertIsNone(files.together(deeds=(("put", "/e", ""),)))
        self.assertIsNone(files.remove(path="/e"))
        self.assertEqual((files.read(path="/c"), files.names(path="/"), files.look(path="/d")), ("helly", ("c", "d"), ("folder", 1, 7, 5)))

    def test_equal_calls_tell_equal_results(self):
        pair = Pair(self, deeds=Moves.DEEDS)
        for lap in range(3):
            self.assertEqual((pair.files.tree(), pair.files.names("/d"), pair.files.look("/h")), (
                pair.plain.tree(), ("e", "f", "h"), ("file", 3, ("/d/h", "/h")),
            ))
            self.assertIs(pair.files.ground, pair.files.ground)

    def test_kinds_of_what_is_told(self):
        pair = Pair(self, deeds=Moves.DEEDS)
        self.assertEqual({type(told) for told in (pair.files.tree(), pair.files.names("/"), pair.files.look("/"), pair.files.look("/h")[2])}, {tuple})

    def test_two_chips_do_not_touch(self):
        one, two = Pair(self), Pair(self)
        one.done("put", "/a", "one")
        self.assertEqual(two.files.tree(), BARE)
        other = Files(one.chip.copy())
        other.put("/a", "two")
        self.assertEqual((one.files.read("/a"), other.read("/a")), ("one", "two"))

    def test_a_gathering_by_hand_changes_nothing_of_the_tree(self):
        pair = Pair(self, deeds=Moves.DEEDS)
        pair.files.ground.gather()
        self.assertEqual(pair.files.tree(), pair.plain.tree())
        pair.done("put", "/d/f", "behind it")


if __name__ == "__main__":
    unittest.main()
