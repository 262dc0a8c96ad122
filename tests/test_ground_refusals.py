"""Sections 2 and 7: what grounds, told_room and meaning refuse, with which value, and that this changes nothing."""

import unittest

from ground_chips import ALL, written_chip
from refusals import assert_refused, nested, same, seen, values_of_all_kinds

from worneven.chips import Chip
from worneven.errors import BadChanges, BadImage, BadKey, BadNumber
from worneven.grounds import Ground, meaning, told_room

EMPTY = "f" * 256
NO_INTEGERS = values_of_all_kinds() + ["4", "", "a"]
NO_KEYS = values_of_all_kinds() + [0, 1, "", " ", "a b", "a" * 14, "%", "\n", "a\t", "\x7f", "\u20ac", ("a",), ["a"]]
NO_VALUES = [value for value in values_of_all_kinds() if value is not None] + [0, 1, "", "a" * 14, "%", "a\nb", "\u20ac"]


def used_ground():
    ground = Ground(Chip(6, 4, ((40, "cut", "f"), (41, "bad", "0"))))
    ground.commit((("a", "one"), ("b", "two")))
    return ground


class GroundRefusals(unittest.TestCase):
    def state(self, ground):
        return ground.number, ground.living, ground.room(), ground.items(*ALL), seen(ground.chip)

    def assert_refused(self, ground, error, value, deed, *arguments):
        twin, before = ground.chip.copy(), self.state(ground)
        assert_refused(self, error, value, deed, *arguments)
        self.assertTrue(same(self.state(ground), before))
        self.assertTrue(ground.chip == twin)

    def test_keys(self):
        ground = used_ground()
        for key in NO_KEYS:
            self.assert_refused(ground, BadKey, key, ground.get, key)
            self.assert_refused(ground, BadKey, key, ground.items, key, "a")
            self.assert_refused(ground, BadKey, key, ground.items, "a", key)
            self.assert_refused(ground, BadKey, key, ground.items, key, [key])
        self.assert_refused(ground, BadKey, False, ground.items, False, True)

    def test_changes(self):
        ground = used_ground()
        wrong = [value for value in values_of_all_kinds() if value != ()] + [
            0, "ab", [("a", "b")], (("a",),), (("a", "b", "c"),), (["a", "b"],), ("ab",), (("a", "b"), None), nested(2),
            (("b", "x"), ("a", "y")), (("a", "x"), ("a", None)), (("a", "x"), ("a", "x")), {"a": "b"}, (("a", "b"), ["c", "d"]),
        ]
        wrong += [((key, "v"),) for key in NO_KEYS] + [(("a", "v"), (key, None)) for key in NO_KEYS]
        wrong += [(("a", value),) for value in NO_VALUES] + [(("a", None), ("b", value)) for value in NO_VALUES]
        for changes in wrong:
            self.assert_refused(ground, BadChanges, changes, ground.commit, changes)

    def test_what_was_refused_does_not_keep_the_ground_from_going_on(self):
        ground = used_ground()
        for changes in (None, [], (("b", "x"), ("a", "y")), (("a", 1),)):
            assert_refused(self, BadChanges, changes, ground.commit, changes)
        ground.commit((("a", None), ("c", "six")))
        self.assertEqual(ground.items(*ALL), (("b", "two"), ("c", "six")))
        self.assertEqual((ground.number, ground.chip.done), (3, 5))

    def test_wrong_changes_come_ahead_of_no_room(self):
        chip = written_chip(4, 4, {0: "root\n1\n-"}, (0, 1, 2, 3))
        ground = Ground(chip)
        self.assert_refused(ground, BadChanges, [], ground.commit, [])
        self.assert_refused(ground, BadChanges, (("b", "x"), ("a", "y")), ground.commit, (("b", "x"), ("a", "y")))

    def test_arguments_by_name(self):
        ground = Ground(chip=Chip(6, 4))
        self.assertIsNone(ground.commit(changes=(("a", "one"),)))
        self.assertEqual([ground.get(key="a"), ground.items(high="z", low="a")], ["one", (("a", "one"),)])
        self.assertIs(told_room(pages=4, entries=1, good=6), True)
        self.assertEqual(meaning(pages=4, image=ground.chip.image()), ("map", 2, (("a", "one"),)))


class ToldRoom(unittest.TestCase):
    def test_all_small_numbers(self):
        for entries in range(12):
            for good in range(12):
                for pages in range(1, 17):
                    told = told_room(entries, good, pages)
                    self.assertIs(told, 3 * entries + 3 + 4 * pages <= good * pages)

    def test_edges(self):
        for entries, good, pages, told in (
            (0, 0, 1, False), (0, 6, 1, False), (0, 7, 1, True), (2, 13, 1, True), (3, 13, 1, False), (319, 64, 16, True),
            (320, 64, 16, False), (10 ** 11, 4, 10 ** 11, False), (10 ** 10, 6, 10 ** 11, True), (1, 5, 6, True), (2, 5, 6, False),
        ):
            self.assertIs(told_room(entries, good, pages), told)

    def test_refusals(self):
        for value in NO_INTEGERS + [-1, -10]:
            assert_refused(self, BadNumber, value, told_room, value, 6, 4)
            assert_refused(self, BadNumber, value, told_room, 3, value, 4)
            assert_refused(self, BadNumber, value, told_room, 3, 6, value)
            assert_refused(self, BadNumber, value, told_room, value, [], -5)
            assert_refused(self, BadNumber, value, told_room, 0, value, 0)
        assert_refused(self, BadNumber, 0, told_room, 3, 6, 0)
        assert_refused(self, BadNumber, True, told_room, True, True, True)


class Meanings(unittest.TestCase):
    def test_pages(self):
        image = Chip(4, 4).image()
        for pages in NO_INTEGERS + [3, 17, 0, -4, 64, 10 ** 11]:
            assert_refused(self, BadNumber, pages, meaning, image, pages)
            assert_refused(self, BadNumber, pages, meaning, None, pages)
            assert_refused(self, BadNumber, pages, meaning, (), pages)

    def test_images(self):
        empty = (EMPTY,)
        others = [value for value in values_of_all_kinds()] + [0, EMPTY, "f" * 1024, list(empty * 4), empty, empty * 3, empty * 5]
        others += [empty * 3 + (cells,) for cells in ("", "f" * 255, "f" * 257, "F" * 256, "g" * 256, None, 0, ["f"], empty)]
        others += [(None,) + empty * 3, {0: EMPTY}, (EMPTY, EMPTY, [EMPTY], EMPTY), nested(4)]
        for image in others:
            assert_refused(self, BadImage, image, meaning, image, 4)
        for pages in range(5, 17):
            for many in (1, 4, pages - 1, pages + 1, 2 * pages - 1):
                assert_refused(self, BadImage, empty * many, meaning, empty * many, pages)

    def test_images_of_any_number_of_blocks(self):
        ground = Ground(Chip(8, 6))
        ground.commit((("a", "1"),))
        image = ground.chip.image()
        for blocks in (1, 2, 3, 5, 100):
            told = (image + (EMPTY,) * 600)[:blocks * 6]
            self.assertEqual(meaning(told, 6), ("map", 2, (("a", "1"),)))
            self.assertEqual(meaning((EMPTY,) * 6 * blocks, 6), ("empty",))
            self.assertEqual(meaning(("0" * 256,) * 6 * blocks, 6), ("empty",))
        self.assertEqual(meaning(image[1:2] + (EMPTY,) * 11, 6), ("none",))
        self.assertEqual(meaning(image[2:3] + image[1:2] + (EMPTY,) * 4, 6), ("map", 2, (("a", "1"),)))
        self.assertEqual(meaning(image[:1] + (EMPTY,) * 4 + image[1:2], 6), ("map", 1, ()))


if __name__ == "__main__":
    unittest.main()
