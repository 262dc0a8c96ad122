"""Section 7: commits and gatherings, the ring page by page, and what is opened on chips written by hand."""

import unittest

from ground_chips import ALL, NotedChip, deeds_of, opened_anew, with_faults, written_chip
from reading import plain_living, plain_meaning, plain_newest, plain_room, plain_text
from refusals import assert_refused, seen
from sealing import plain_sealed

from worneven.chips import Chip
from worneven.errors import Cut, Full, NoGround
from worneven.grounds import Ground, meaning

EMPTY = "f" * 256
TORN = "0" * 256


def whole_map(number, held, at=0):
    """The page texts, from this place on, of a leaf and of a root page above it."""
    words = [word for row in sorted(held.items()) for word in row]
    return {at: "\n".join(["l", *words]), at + 1: f"root\n{number}\n{at}"}


class Commits(unittest.TestCase):
    def test_a_new_chip(self):
        for blocks, pages in ((4, 4), (6, 4), (64, 16), (5, 7)):
            chip = Chip(blocks, pages)
            ground = Ground(chip)
            self.assertEqual([ground.number, ground.living, ground.items(*ALL), chip.done], [1, (0,), (), 1])
            self.assertEqual(plain_text(chip.read(0)), "root\n1\n-")
            self.assertIs(ground.chip, chip)
            self.assertEqual(ground.room(), blocks * pages - 1)

    def test_what_a_commit_writes(self):
        chip = Chip(6, 4)
        ground = Ground(chip)
        self.assertIsNone(ground.commit((("a", "one"), ("b", "two"))))
        self.assertEqual([plain_text(chip.read(place)) for place in (1, 2, 3)], ["l\na\none\nb\ntwo", "root\n2\n1", None])
        ground.commit(tuple((key, "v") for key in "cdefg"))
        texts = [plain_text(cells) for cells in chip.image()]
        newest = plain_newest(chip.image())
        self.assertEqual(newest[0], 3)
        for place in range(3, newest[1]):
            self.assertIn(texts[place][0], "lf")
        self.assertEqual([text for text in texts[newest[1] + 1:] if text is not None], [])

    def test_commits_without_changes(self):
        ground = Ground(Chip(8, 4))
        for number in range(2, 10):
            ground.commit((("b", None),) if number % 2 else ())
            self.assertEqual((ground.number, ground.items(*ALL)), (number, ()))
        ground.commit((("a", "v"),))
        leaf = ground.living[0]
        ground.commit((("a", "v"),))
        self.assertEqual((ground.number, ground.living), (11, (leaf, leaf + 2)))

    def test_keys_come_change_and_go(self):
        ground = Ground(Chip(8, 8))
        ground.commit((("a", "1"), ("b", "2"), ("c", "3")))
        ground.commit((("a", None), ("b", "22"), ("d", "4"), ("z", None)))
        self.assertEqual(ground.items(*ALL), (("b", "22"), ("c", "3"), ("d", "4")))
        self.assertEqual([ground.get(key) for key in "abcde"], [None, "22", "3", "4", None])
        self.assertEqual([ground.items("c", "c"), ground.items("d", "a")], [(("c", "3"),), ()])
        ground.commit((("b", None), ("c", None), ("d", None)))
        self.assertEqual((ground.items(*ALL), len(ground.living)), ((), 1))

    def test_gather_writes_all_anew_below_one_new_root(self):
        chip = Chip(16, 8)
        ground = Ground(chip)
        for number in range(12):
            ground.commit(((f"k{number:02d}", "v"),))
        elder, number, held = set(ground.living), ground.number, ground.items(*ALL)
        self.assertIsNone(ground.gather())
        self.assertEqual((ground.number, ground.items(*ALL)), (number + 1, held))
        self.assertEqual(set(ground.living) & elder, set())
        low, high = min(ground.living), max(ground.living)
        self.assertEqual(ground.living, tuple(range(low, high + 1)))
        self.assertEqual(ground.living, plain_living(chip.image()))

    def test_two_grounds_one_behind_the_other_on_one_chip(self):
        chip = Chip(8, 4)
        Ground(chip).commit((("a", "1"),))
        done = chip.done
        other = Ground(chip)
        self.assertEqual((chip.done, other.number, other.get("a")), (done, 2, "1"))
        other.commit((("b", "2"),))
        self.assertEqual(Ground(chip.copy()).items(*ALL), (("a", "1"), ("b", "2")))

    def test_kinds_of_what_is_told(self):
        ground = Ground(Chip(6, 4))
        ground.commit((("a", "1"),))
        kinds = [type(told) for told in (ground.number, ground.living, ground.items(*ALL), ground.room(), ground.get("a"))]
        self.assertEqual(kinds, [int, tuple, tuple, int, str])


class TheRing(unittest.TestCase):
    def place_of_next(self, chip):
        """Where the ground on this chip writes first, and which blocks it erased ahead of that."""
        twin = with_faults(chip, (), NotedChip)
        opened_anew(twin).commit(())
        places = [told[1] for told in twin.noted if told[0] == "write"]
        first = [told[0] for told in twin.noted].index("write")
        return places[0], [block for _, block in twin.noted[:first]]

    def test_page_behind_page_and_block_behind_block(self):
        chip = Chip(5, 4)
        ground = Ground(chip)
        for place in list(range(1, 20)) + list(range(20)) + list(range(7)):
            ground.commit(())
            self.assertEqual(ground.living, (place,))
            self.assertEqual(ground.room(), plain_room(chip, ground.living))
        self.assertEqual((chip.wear, chip.done), ((2, 2, 1, 1, 1), 47 + 7))

    def test_behind_the_newest_root(self):
        self.assertEqual(self.place_of_next(written_chip(5, 4, {0: "root\n1\n-"})), (1, []))
        self.assertEqual(self.place_of_next(written_chip(5, 4, {6: "root\n3\n-"})), (7, []))
        self.assertEqual(self.place_of_next(written_chip(5, 4, {7: "root\n3\n-"})), (8, []))
        self.assertEqual(self.place_of_next(written_chip(5, 4, {19: "root\n3\n-"})), (0, []))
        self.assertEqual(self.place_of_next(written_chip(5, 4, {4: "root\n9\n-", 9: "root\n3\n-"})), (5, []))

    def test_pages_in_the_way_within_the_roots_block(self):
        for other in (TORN, "no sheet", "root\n2\n-", "l\na\none", EMPTY[:-1] + "e"):
            self.assertEqual(self.place_of_next(written_chip(5, 6, {0: "root\n3\n-", 1: other}))[0], 2)
            self.assertEqual(self.place_of_next(written_chip(5, 6, {0: "root\n3\n-", 2: other}))[0], 3)
            self.assertEqual(self.place_of_next(written_chip(5, 6, {0: "root\n3\n-", 4: other}))[0], 5)
            self.assertEqual(self.place_of_next(written_chip(5, 6, {0: "root\n3\n-", 5: other})), (6, []))
            self.assertEqual(self.place_of_next(written_chip(5, 6, {0: other, 2: "root\n3\n-"}))[0], 3)

    def test_pages_in_the_next_block_are_erased_first(self):
        for other in (TORN, "no sheet", "root\n2\n-", "l\na\none", EMPTY[:-1] + "e"):
            for at in (8, 9, 11):
                chip = written_chip(5, 4, {7: "root\n3\n-", at: other})
                self.assertEqual(self.place_of_next(chip), (8, [2]))

    def test_blocks_of_living_pages_are_passed_over(self):
        texts = {7: "root\n3\n10", 10: "l\na\none"}
        self.assertEqual(self.place_of_next(written_chip(5, 4, texts)), (12, []))
        texts[13] = "old"
        self.assertEqual(self.place_of_next(written_chip(5, 4, texts)), (12, [3]))

    def test_no_block_is_passed_over_when_all_others_would_wear_too_much(self):
        texts = {7: "root\n3\n10", 10: "l\na\none", 13: "old"}
        worn = Chip(5, 4)
        worn.erase(4)
        for place in texts:
            worn.write(place, plain_sealed(texts[place]))
        # Were block 2 passed over, block 4 could be erased a second time ahead of its first.
        before = seen(worn)
        assert_refused(self, Full, None, Ground(worn).commit, ())
        self.assertEqual(seen(worn), before)
        # With a cut, or a bad block, it may be.
        cut = with_faults(worn, ((1, "cut", "f"),))
        assert_refused(self, Cut, None, cut.write, 19, EMPTY)
        cut.again()
        self.assertEqual(self.place_of_next(cut), (12, [3]))
        bad = with_faults(worn, ((1, "bad", "f"),))
        bad.erase(0)
        self.assertEqual(self.place_of_next(bad), (12, [3]))

    def test_bad_blocks_are_passed_over(self):
        self.assertEqual(self.place_of_next(written_chip(6, 4, {7: "root\n3\n-"}, (2,))), (12, []))
        self.assertEqual(self.place_of_next(written_chip(6, 4, {7: "root\n3\n-"}, (2, 3, 0))), (16, []))
        self.assertEqual(self.place_of_next(written_chip(6, 4, {5: "root\n3\n-"}, (1,))), (8, []))
        self.assertEqual(self.place_of_next(written_chip(6, 4, {23: "root\n3\n-", 3: "old"}, (1, 2, 3))), (0, [0]))
        self.assertEqual(self.place_of_next(written_chip(6, 4, {7: "root\n3\n10", 10: "l\na\none"}, (3,))), (16, []))

    def test_living_pages_in_a_bad_block_are_no_end_of_the_ring(self):
        chip = written_chip(6, 4, {4: "l\na\none", 7: "root\n3\n8", 8: "l\na\none"}, (2,))
        ground = Ground(chip)
        self.assertEqual((ground.living, ground.room()), ((7, 8), 16))
        chip = written_chip(6, 4, {7: "root\n3\n8", 8: "l\na\none"})
        self.assertEqual(Ground(chip).room(), 0)
        chip = written_chip(6, 4, {5: "root\n3\n14", 14: "l\na\none"})
        self.assertEqual(Ground(chip).room(), 2 + 4)

    def test_nothing_living_is_ever_erased_or_left_out(self):
        chip = written_chip(6, 4, {3: "root\n3\n13", 13: "f\na\n5\nc\n21", 5: "l\na\n1\nb\n2", 21: "l\nc\n3\nd\n4"})
        ground = Ground(chip)
        self.assertEqual((ground.living, ground.room()), ((3, 5, 13, 21), 0))
        ground.commit((("b", "22"),))
        self.assertEqual(ground.items(*ALL), (("a", "1"), ("b", "22"), ("c", "3"), ("d", "4")))
        self.assertEqual(chip.wear, (0,) * 6)

    def test_a_block_that_goes_bad_at_a_write(self):
        for pattern in ("f", "0f", "8"):
            chip = with_faults(written_chip(8, 4, {0: "root\n1\n-"}), ((1, "bad", pattern),))
            ground = Ground(chip)
            ground.commit((("a", "one"),))
            self.assertEqual((ground.number, ground.living, chip.bad), (2, (4, 5), (0,)))

    def test_a_root_that_is_whole_in_a_bad_block_is_as_good_as_written(self):
        chip = with_faults(written_chip(8, 4, {0: "root\n1\n-"}), ((2, "bad", "0"),))
        ground = Ground(chip)
        ground.commit((("a", "one"),))
        self.assertEqual((ground.number, ground.living, chip.bad, chip.done), (2, (1, 2), (0,), 3))
        ground.commit(())
        self.assertEqual((ground.number, ground.living), (3, (1, 4)))

    def test_a_leaf_that_is_whole_in_a_bad_block_is_written_again(self):
        chip = with_faults(written_chip(8, 4, {0: "root\n1\n-"}), ((1, "bad", "0"),))
        ground = Ground(chip)
        ground.commit((("a", "one"),))
        self.assertEqual((plain_text(chip.read(1)), ground.living), ("l\na\none", (4, 5)))

    def test_a_root_that_is_torn_in_a_bad_block_is_written_again_with_its_number(self):
        chip = with_faults(written_chip(8, 4, {0: "root\n1\n-"}), ((2, "bad", "0f"),))
        ground = Ground(chip)
        ground.commit((("a", "one"),))
        self.assertEqual((ground.number, ground.living, plain_text(chip.read(4))), (2, (1, 4), "root\n2\n1"))

    def test_a_block_that_goes_bad_when_it_is_erased(self):
        chip = with_faults(written_chip(8, 4, {3: "root\n1\n-", 4: "old", 8: "old"}), ((1, "bad", "0f"),))
        ground = Ground(chip)
        ground.commit(())
        self.assertEqual((ground.living, chip.bad, chip.wear), ((8,), (1,), (0, 1, 1, 0, 0, 0, 0, 0)))


class Opening(unittest.TestCase):
    def test_opening_writes_nothing(self):
        chip = Chip(6, 4)
        ground = Ground(chip)
        for lap in range(60):
            ground.commit((("a", str(lap)), (f"k{lap % 3}", "v" if lap % 2 else None)))
            other = opened_anew(chip)
            told = [(one.number, one.living, one.room(), one.items(*ALL)) for one in (ground, other, Ground(chip.copy()))]
            self.assertEqual(told, [told[0]] * 3)

    def test_without_current_a_chip_is_opened_but_not_begun(self):
        chip = with_faults(written_chip(5, 4, whole_map(4, {"a": "1"})), ((1, "cut", "f"),))
        with self.assertRaises(Cut):
            Ground(chip).commit(())
        self.assertEqual((chip.is_on, Ground(chip).items(*ALL)), (False, (("a", "1"),)))
        assert_refused(self, Cut, None, Ground(chip).commit, ())
        assert_refused(self, Cut, None, Ground(chip).gather)
        bare = Chip(4, 4, ((1, "cut", "f"),))
        assert_refused(self, Cut, None, Ground, bare)
        assert_refused(self, Cut, None, Ground, bare)
        bare.again()
        self.assertEqual((Ground(bare).number, bare.done), (1, 2))

    def test_cut_ahead_of_the_first_root(self):
        for pattern, done, wear in (("f", 2, 0), ("0f", 3, 1), ("0", 1, 0), ("f" * 255 + "0", 3, 1)):
            chip = Chip(4, 4, ((1, "cut", pattern),))
            assert_refused(self, Cut, None, Ground, chip)
            chip.again()
            ground = Ground(chip)
            self.assertEqual((ground.number, ground.living, chip.done, chip.wear[0]), (1, (0,), done, wear))

    def test_blocks_that_go_bad_at_the_first_root(self):
        chip = Chip(4, 4, ((1, "bad", "0f"), (2, "bad", "f")))
        self.assertEqual((Ground(chip).living, chip.bad), ((8,), (0, 1)))
        chip = Chip(4, 4, ((1, "bad", "0"),))
        self.assertEqual((Ground(chip).living, chip.bad, chip.done), ((0,), (0,), 1))
        chip = Chip(4, 4, tuple((at, "bad", "0f") for at in range(1, 9)))
        assert_refused(self, Full, None, Ground, chip)
        self.assertEqual((chip.bad, chip.done, meaning(chip.image(), 4)), ((0, 1, 2, 3), 4, ("empty",)))
        assert_refused(self, Full, None, Ground, chip)

    def test_torn_pages_alone_are_as_good_as_none(self):
        chip = written_chip(4, 4, {0: TORN, 5: "0f" * 128, 15: EMPTY[:-1] + "0"})
        ground = Ground(chip)
        self.assertEqual((ground.number, ground.living, chip.wear), (1, (0,), (1, 0, 0, 0)))
        self.assertEqual(plain_meaning(chip.image()), ("map", 1, ()))

    def test_mended_pages_are_as_good_as_whole_ones(self):
        chip = Chip(6, 4)
        ground = Ground(chip)
        ground.commit(tuple((key, "v") for key in "abcdefg"))
        expected = ground.items(*ALL)
        for place in range(chip.blocks * chip.pages):
            if chip.read(place) != EMPTY:
                chip.fade(place, (place * 37) % 200, "0") if chip.read(place)[(place * 37) % 200] != "0" else None
                self.assertEqual((ground.items(*ALL), Ground(chip).items(*ALL)), (expected, expected))
                self.assertEqual(meaning(chip.image(), 4), ("map", 2, expected))
        ground.commit((("a", "w"),))
        self.assertEqual(Ground(chip).get("a"), "w")

    def test_the_greatest_number_and_of_two_alike_the_least_place(self):
        for texts, number, page in (
            ({3: "root\n2\n-", 9: "root\n10\n-", 5: "root\n9\n-"}, 10, 9),
            ({9: "root\n7\n-", 5: "root\n7\n-", 0: "root\n6\n-"}, 7, 5),
            ({3: "root\n123456789012345678901234567890\n-", 0: "root\n99\n-"}, 123456789012345678901234567890, 3),
        ):
            chip = written_chip(4, 4, texts)
            ground = Ground(chip)
            self.assertEqual((ground.number, ground.living), (number, (page,)))
            self.assertEqual(meaning(chip.image(), 4), ("map", number, ()))

    def test_a_root_page_of_a_near_form_is_none(self):
        for text in (
            "root\n0\n-", "root\n01\n-", "root\n-1\n-", "root\n1", "root\n1\n", "root\n1\n-\n", "Root\n1\n-", "root 1 -",
            "root\n1\n--", "root\n1\n-1", "root\n1\n01", "root\n1\n+1", "root\n\n-", "root\n1\nNone", "\nroot\n1\n-", "root\n1.0\n-",
            "root\n1\n1\n1", "root", "", "root\n1 \n-", "root\n1\n 1",
        ):
            chip = written_chip(4, 4, {0: text, 1: "l\na\none"})
            self.assertEqual(meaning(chip.image(), 4), ("none",), text)
            assert_refused(self, NoGround, None, Ground, chip)
            other = written_chip(4, 4, {0: text, 1: "l\na\none", 2: "root\n1\n1"})
            self.assertEqual((Ground(other).living, meaning(other.image(), 4)), ((1, 2), ("map", 1, (("a", "one"),))))


class NoGrounds(unittest.TestCase):
    def is_none(self, chip):
        before = seen(chip)
        self.assertEqual(plain_meaning(chip.image()), ("none",))
        self.assertEqual(meaning(chip.image(), chip.pages), ("none",))
        assert_refused(self, NoGround, None, Ground, chip)
        self.assertEqual(seen(chip), before)

    def test_whole_pages_but_no_root(self):
        for texts in ({0: "l\na\none"}, {15: ""}, {7: "x"}, {0: TORN, 9: "f\na\n1\nb\n2"}, {3: "roots\n1\n-"}):
            self.is_none(written_chip(4, 4, texts))

    def test_a_root_that_leads_to_no_map(self):
        for text in (TORN, EMPTY, "", "x", "root\n1\n-", "l\na", "l\nb\n1\na\n2", "f\na\n2", "f\na\n2\nb\n04", EMPTY[:-1] + "0"):
            self.is_none(written_chip(4, 4, {0: "root\n1\n1", 1: text}))
        for place in (0, 2, 15, 16, 17, 10 ** 20):
            self.is_none(written_chip(4, 4, {0: f"root\n1\n{place}", 1: "l\na\none"}))

    def test_an_elder_root_is_no_help(self):
        self.is_none(written_chip(4, 4, {**whole_map(1, {"a": "1"}, 4), 0: "root\n2\n1"}))
        self.is_none(written_chip(4, 4, {4: "root\n2\n-", 0: "root\n2\n1"}))

    def forked(self, fork, texts):
        return written_chip(4, 4, {0: "root\n1\n1", 1: fork, **texts})

    def test_sheets_beneath(self):
        left, right = "l\na\n1\nb\n2", "l\nd\n3\ne\n4"
        good = self.forked("f\na\n2\nd\n3", {2: left, 3: right})
        self.assertEqual(len(Ground(good).items(*ALL)), 4)
        for fork in (
            "f\na\n2\nd\n16", "f\na\n2\nd\n4", "f\na\n2\nd\n1", "f\na\n1\nd\n3", "f\na\n2\nd\n0", "f\na\n2\nd\n2",
            "f\na\n2\nc\n3", "f\na\n2\ne\n3", "f\n!\n2\nd\n3", "f\nb\n2\nd\n3", "f\na\n3\nd\n2", "f\na\n2\nd\n3\nf\n4",
        ):
            self.is_none(self.forked(fork, {2: left, 3: right}))
        for text in (TORN, "x", "l\nd\n3", "l\nd\n3\ne", "root\n1\n-", "f\nd\n5\ne\n6", "l\nc\n3\nd\n4", "l\ne\n3\nf\n4"):
            self.is_none(self.forked("f\na\n2\nd\n3", {2: left, 3: text}))
        for text in ("l\na\n1", "l\na\n1\nd\n2", "l\na\n1\ne\n2", "l\nb\n1\nc\n2", "f\na\n3\nd\n3", "l\na\n1\nb\n2\nc\n3\nd\n4"):
            self.is_none(self.forked("f\na\n2\nd\n3", {2: text, 3: right}))

    def test_leaves_unequally_deep(self):
        texts = {2: "l\na\n1\nb\n2", 3: "f\nc\n4\ne\n5", 4: "l\nc\n1\nd\n2", 5: "l\ne\n1\nf\n2"}
        self.is_none(self.forked("f\na\n2\nc\n3", texts))
        self.is_none(self.forked("f\na\n6\nc\n3", {**texts, 6: "x"}))
        turned = {2: "f\na\n4\nb\n5", 3: "l\nc\n1\nd\n2", 4: "l\na\n1\na!\n2", 5: "l\nb\n1\nb!\n2"}
        self.is_none(self.forked("f\na\n2\nc\n3", turned))

    def test_loops(self):
        self.is_none(self.forked("f\na\n1\nb\n1", {}))
        self.is_none(self.forked("f\na\n2\nd\n3", {2: "f\na\n1\nb\n4", 3: "f\nd\n5\ne\n6"}))
        self.is_none(self.forked("f\na\n2\nb\n2", {2: "f\na\n1\nb\n1"}))
        self.is_none(self.forked("f\na\n2\nd\n3", {2: "f\na\n4\nb\n4", 3: "f\nd\n4\ne\n4", 4: "l\na\n1\nb\n2"}))

    def test_least_keys_two_forks_above(self):
        leaves = {4: "l\na\n1\nb\n1", 5: "l\nc\n1\nd\n1", 6: "l\ne\n1\nf\n1", 7: "l\ng\n1\nh\n1"}
        forks = {2: "f\na\n4\nc\n5", 3: "f\ne\n6\ng\n7"}
        good = self.forked("f\na\n2\ne\n3", {**forks, **leaves})
        self.assertEqual([len(Ground(good).items(*ALL)), len(Ground(good).living)], [8, 8])
        for fork in ("f\n!\n2\ne\n3", "f\na\n2\nd\n3", "f\na\n2\nf\n3", "f\na\n2\ng\n3", "f\nb\n2\ne\n3"):
            self.is_none(self.forked(fork, {**forks, **leaves}))
        for text in ("l\nc\n1\ne\n1", "l\nc\n1\nf\n1", "l\nb\n1\nd\n1", "l\nc!\n1\nd\n1", "l\nc\n1\nz\n1"):
            self.is_none(self.forked("f\na\n2\ne\n3", {**forks, **leaves, 5: text}))


class Fulls(unittest.TestCase):
    def test_all_blocks_bad(self):
        chip = Chip(4, 4)
        ground = Ground(chip)
        ground.commit((("a", "1"),))
        for block in range(4):
            chip = with_faults(chip, ((1, "bad", "0"),))
            chip.erase(block)
        ground = Ground(chip)
        self.assertEqual((ground.items(*ALL), ground.room(), chip.bad), ((("a", "1"),), 0, (0, 1, 2, 3)))
        for deed in (ground.commit, Ground(chip).commit):
            assert_refused(self, Full, None, deed, (("a", "2"),))
            assert_refused(self, Full, None, deed, ())
        assert_refused(self, Full, None, ground.gather)
        self.assertEqual((ground.number, Ground(chip).items(*ALL)), (2, (("a", "1"),)))

    def test_too_many_keys(self):
        for blocks, pages in ((4, 4), (5, 6), (8, 4)):
            chip = Chip(blocks, pages)
            ground = Ground(chip)
            ground.commit((("a", "1"),))
            before = seen(chip)
            many = tuple((f"k{number:04d}", "v") for number in range(4 * blocks * pages))
            assert_refused(self, Full, None, ground.commit, many)
            self.assertEqual((seen(chip), ground.items(*ALL)), (before, (("a", "1"),)))
            ground.commit((("a", "2"),))
            self.assertEqual(ground.get("a"), "2")

    def test_grown_until_it_is_full_and_emptied_again(self):
        for blocks, pages in ((4, 4), (4, 8), (6, 4), (8, 16)):
            ground, held = Ground(Chip(blocks, pages)), {}
            for number in range(400):
                try:
                    ground.commit(((f"k{number:03d}", "v"),))
                except Full:
                    break
                held[f"k{number:03d}"] = "v"
            self.assertGreater(len(held), 3)
            self.assertEqual(ground.items(*ALL), tuple(sorted(held.items())))
            for key in sorted(held):
                ground.commit(((key, None),))
            self.assertEqual(ground.items(*ALL), ())

    def test_gather_is_full_only_where_a_commit_of_nothing_is(self):
        texts = {0: "root\n1\n1", 1: "f\na\n4\nd\n8", 4: "l\na\n1\nb\n2", 8: "l\nd\n3\ne\n4", 12: "old"}
        for bad in ((), (3,), (0, 3), (1, 2, 3)):
            chip = written_chip(4, 4, texts, bad)
            told = []
            for deed in (lambda ground: ground.gather(), lambda ground: ground.commit(())):
                try:
                    deeds_of(chip, deed)
                    told.append(True)
                except Full:
                    told.append(False)
            self.assertIn(told, ([True, True], [False, False], [True, False]))


if __name__ == "__main__":
    unittest.main()
