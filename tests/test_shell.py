"""Section 12: each line of a shell with each of its answers, noted deeds, cuts and bad blocks, and refusals."""

import unittest

from refusals import assert_refused, values_of_all_kinds

from worneven.chips import Chip
from worneven.codes import sealed
from worneven.errors import BadLine, BadSize, Cut
from worneven.grounds import Ground
from worneven.shell import Shell


class Lines(unittest.TestCase):
    def setUp(self):
        self.shell = Shell(16, 8)

    def say(self, *rows):
        """Each line is answered so."""
        for line, answer in rows:
            self.assertEqual(self.shell.say(line), answer, line)

    def test_deeds(self):
        self.say(
            ("mkdir /d", "ok"), ("mkdir /d", "? There"), ("mkdir /x/y", "? NoPath"), ("mkdir x", "? BadPath"), ("mkdir ", "? BadPath"), ("mkdir /", "? There"),
            ("put /d/a hello", "ok"), ("put /d x", "? IsFolder"), ("put /d/a/b x", "? NotFolder"), ("put a x", "? BadPath"), ("put  x", "? BadPath"),
            ("write /d/a 5  you", "ok"), ("cat /d/a", "hello you"), ("write /d/a 10 x", "? BadSpan"), ("write /d/a -1 x", "? BadSpan"), ("write / 0 x", "? IsFolder"),
            ("trim /d/a 5", "ok"), ("cat /d/a", "hello"), ("trim /d/a 6", "? BadSpan"), ("trim /d/a -2", "? BadSpan"), ("trim /d 0", "? IsFolder"),
            ("ln /d/a /b", "ok"), ("ln /d/a /b", "? There"), ("ln /d /e", "? IsFolder"), ("ln /no /e", "? NoPath"), ("ln /b ", "? BadPath"),
            ("rm /d", "? NotEmptyFolder"), ("rm /", "? Within"), ("rm /c", "? NoPath"), ("rm /d/a", "ok"), ("rm /d", "ok"), ("rm /d", "? NoPath"),
            ("mkdir /d", "ok"), ("mv /d /d/e", "? Within"), ("mv /b /d", "? IsFolder"), ("mv /d /b", "? NotFolder"), ("mv /b /d/b", "ok"), ("mv / /x", "? Within"),
            ("quota /d 4", "? OverQuota"), ("quota /d 5", "ok"), ("quota /d none", "ok"), ("quota /d 0", "? OverQuota"), ("quota /d/b 9", "? NotFolder"),
            ("quota /d 1000000", "? BadQuota"), ("quota /d -1", "? BadQuota"), ("quota /d 999999", "ok"), ("stat /d", "folder 1 999999 5"),
            ("put /d/c " + "x" * 600, "ok"), ("put /d/c " + "x" * 601, "? BadText"), ("quota /d 605", "ok"), ("put /d/b longer", "? OverQuota"),
        )

    def test_what_is_told(self):
        self.say(
            ("ls /", ""), ("stat /", "folder 0 none 0"), ("put /b  two  words ", "ok"), ("cat /b", " two  words "), ("stat /b", "file 12 1"),
            ("mkdir /a", "ok"), ("mkdir /a-b", "ok"), ("ln /b /a/x", "ok"), ("ls /", "a a-b b"), ("ls /a", "x"), ("ls /a-b", ""), ("stat /b", "file 12 2"),
            ("stat /a", "folder 1 none 12"), ("stat /", "folder 3 none 12"), ("quota / 12", "ok"), ("stat /", "folder 3 12 12"), ("put /e ", "ok"), ("cat /e", ""),
            ("cat /", "? IsFolder"), ("cat /no", "? NoPath"), ("cat /b/x", "? NotFolder"), ("ls /b", "? NotFolder"), ("ls b", "? BadPath"), ("ls ", "? BadPath"),
            ("stat /no/x", "? NoPath"), ("stat ", "? BadPath"), ("cat ", "? BadPath"), ("check", "right"), ("wear", "0 0 0"),
        )

    def test_texts(self):
        self.say(
            ("put /a ", "ok"), ("cat /a", ""), ("put /a  ", "ok"), ("cat /a", " "), ("put /a    ", "ok"), ("cat /a", "   "), ("put /a  x ", "ok"), ("cat /a", " x "),
            ("put /a", "?"), ("put ", "?"), ("put", "?"), ("put  ", "? BadPath"), ("write /a 0", "?"), ("write /a 0 ", "ok"), ("cat /a", " x "),
            ("write /a 1  ", "ok"), ("cat /a", "   "), ("write /a 3 4 5 6", "ok"), ("cat /a", "   4 5 6"), ("write  0 x", "? BadPath"), ("write /a", "?"),
            ("write /a  x", "?"), ("put /a none", "ok"), ("put /cat cut 1 f", "ok"), ("cat /cat", "cut 1 f"),
        )

    def test_lines_of_no_form(self):
        self.say(("put /a 12345", "ok"))
        for line in (
            "", " ", "  ", "cat", "ls", "stat", "mkdir", "rm", "mv", "ln", "mv /a", "ln /a", "trim", "trim /a", "trim /a ", "quota", "quota /", "quota / ", "help",
            "cat  /a", "cat /a ", " cat /a", "cat /a /b", "ls / ", "ls  /", "stat / x", "mkdir /x y", "mkdir  /x", "rm /a ", "rm  /a", "mv /a  /b", "mv /a /b ",
            "ln /a /b /c", "trim /a 1 ", "trim /a  1", "trim /a 1 2", "quota / 5 ", "quota /  5", "CAT /a", "Put /a x", "check ", "check x", " check", "wear ",
            "wear 1", "begin ", " begin", "begin x", "end ", "end", "drop", "drop ", "on", "on ", " on", "on x", "end x", "put/a x", "cut", "cut 1", "cut f", "spoil",
        ):
            self.say((line, "?"))
        for number in ("01", "00", "+1", "-0", "-01", "1.0", "1e0", "0x1", "one", "1_0", "", "None", "True", "--1", "-"):
            self.say((f"trim /a {number}", "?"), (f"write /a {number} x", "?"), (f"quota / {number}", "?"))
        self.say(("cat /a", "12345"), ("stat /", "folder 1 none 5"), ("trim /a none", "?"), ("trim /a 99999999999", "? BadSpan"))
        self.say(("quota / 999999999999", "? BadQuota"), ("write /a 100000000000 x", "? BadSpan"), ("trim /a -999999999999", "? BadSpan"))

    def test_long_lines(self):
        self.say(("put /a " + "x" * 693, "? BadText"), ("x" * 700, "?"), ("cat " + "/" * 696, "? BadPath"), ("put /abc   " + "x" * 598, "ok"), ("stat /abc", "file 600 1"))
        assert_refused(self, BadLine, "y" * 701, self.shell.say, "y" * 701)
        assert_refused(self, BadLine, "put /a " + "x" * 694, self.shell.say, "put /a " + "x" * 694)


class Noted(unittest.TestCase):
    say = Lines.say

    def setUp(self):
        self.shell = Shell(32, 8)
        self.say(("mkdir /d", "ok"), ("put /a one", "ok"))

    def test_deeds_are_noted_and_done_together(self):
        self.say(
            ("begin", "ok"), ("put /b two", "noted"), ("mv /a /d/a", "noted"), ("write /d/a 3  more", "noted"), ("ls /", "a d"), ("cat /a", "one"), ("check", "right"),
            ("end", "ok"), ("ls /", "b d"), ("cat /d/a", "one more"), ("end", "?"), ("drop", "?"),
        )

    def test_what_is_refused_is_told_by_end_only_and_forgotten(self):
        self.say(
            ("begin", "ok"), ("put /b two", "noted"), ("rm /no", "noted"), ("mkdir ", "noted"), ("quota /d -1", "noted"), ("end", "? NoPath"), ("ls /", "a d"), ("end", "?"),
            ("begin", "ok"), ("put /d x", "noted"), ("end", "? IsFolder"), ("begin", "ok"), ("end", "ok"), ("ls /", "a d"),
        )

    def test_dropped_deeds(self):
        self.say(("begin", "ok"), ("rm /a", "noted"), ("begin", "?"), ("drop", "ok"), ("ls /", "a d"), ("drop", "?"), ("end", "?"), ("begin", "ok"), ("begin", "?"), ("end", "ok"))
        self.say(("begin", "ok"), ("rm /a", "noted"), ("drop", "ok"), ("begin", "ok"), ("put /b x", "noted"), ("end", "ok"), ("ls /", "a b d"))

    def test_twenty_and_one_more(self):
        self.say(("begin", "ok"))
        for lap in range(20):
            self.say((f"put /f{lap} {lap}", "noted"))
        self.say(("put /f20 20", "?"), ("rm /a", "?"), ("begin", "?"), ("put /f20", "?"), ("cat /a", "one"), ("end", "ok"), ("cat /f19", "19"), ("cat /f20", "? NoPath"))
        self.assertEqual(len(self.shell.say("ls /").split(" ")), 22)
        self.say(("put /f20 20", "ok"))

    def test_lines_of_no_form_are_not_noted(self):
        self.say(("begin", "ok"))
        for line in ("put /b", "mkdir", "trim /a 01", "rm  /a", "mv /a", "on", "begin"):
            self.say((line, "?"))
        self.say(("put /b ", "noted"), ("end", "ok"), ("ls /", "a b d"))

    def test_cut_amid_noted_deeds(self):
        self.say(
            ("begin", "ok"), ("cut 2 0f", "ok"), ("put /b two", "noted"), ("rm /a", "noted"), ("ls /", "a d"), ("end", "cut"), ("end", "off"), ("ls /", "off"), ("on", "ok"),
            ("end", "?"), ("ls /", "a d"), ("check", "right"),
        )

    def test_a_quota_that_holds_behind_the_last_deed_only(self):
        self.say(("quota / 3", "ok"), ("begin", "ok"), ("put /b x", "noted"), ("rm /a", "noted"), ("end", "? OverQuota"), ("begin", "ok"), ("rm /a", "noted"))
        self.say(("put /b xyz", "noted"), ("end", "ok"), ("ls /", "b d"))


class Faults(unittest.TestCase):
    say = Lines.say

    def setUp(self):
        self.shell = Shell(8, 4)

    def test_a_cut_and_on_again(self):
        self.say(
            ("put /a one", "ok"), ("on", "?"), ("cut 1 f", "ok"), ("cat /a", "one"), ("ls /", "a"), ("put /a two", "cut"), ("cat /a", "off"), ("nonsense", "off"), ("", "off"),
            ("cut 1 f", "off"), ("check", "off"), ("wear", "off"), ("on ", "off"), ("begin", "off"), ("on", "ok"), ("cat /a", "one"), ("on", "?"), ("check", "right"),
            ("put /a two", "ok"), ("cat /a", "two"),
        )

    def test_the_pattern_0_tears_nothing(self):
        # The last write of a put is the root page: torn by 0 it is whole all the same.
        self.say(("put /a one", "ok"), ("cut 2 0", "ok"), ("put /a two", "cut"), ("on", "ok"), ("cat /a", "two"), ("check", "right"))

    def test_each_write_of_a_deed_can_be_cut(self):
        for at in range(1, 12):
            self.shell = Shell(8, 4)
            self.say(("put /a one", "ok"), (f"cut {at} 0f", "ok"))
            answer = self.shell.say("put /a two")
            self.assertIn(answer, ("cut", "ok"))
            if answer == "cut":
                self.say(("on", "ok"))
            self.assertIn(self.shell.say("cat /a"), ("one", "two") if answer == "cut" else ("two",))
            self.say(("check", "right"))

    def test_several_at_once_and_twice_for_the_same_write(self):
        self.say(("cut 1 f", "ok"), ("cut 1 0", "?"), ("spoil 1 f", "?"), ("cut 2 f", "ok"), ("spoil 3 f", "ok"), ("cut 3 f", "?"), ("cut 4 f", "ok"))
        self.say(("put /a x", "cut"), ("on", "ok"), ("cut 1 f", "?"), ("put /a x", "cut"), ("on", "ok"), ("spoil 1 0", "?"), ("put /a x", "cut"), ("on", "ok"), ("put /a x", "ok"))
        self.say(("wear", "0 0 1"), ("cut 1 f", "ok"), ("put /a y", "cut"), ("on", "ok"), ("check", "right"), ("cat /a", "x"))

    def test_one_that_is_past_can_be_told_again_for_a_later_write(self):
        for lap in range(6):
            self.say(("cut 1 0f", "ok"), (f"put /a {lap}", "cut"), ("on", "ok"), ("ls /", ""))
        self.say(("spoil 1 f", "ok"), ("put /a x", "ok"), ("spoil 1 f", "ok"), ("put /a y", "ok"), ("wear", "0 0 2"), ("cat /a", "y"))

    def test_numbers_and_patterns(self):
        for word in ("cut", "spoil"):
            for rest in (
                "0 f", "-1 f", "01 f", "1000001 f", "1 ", "1", "1 g", "1 F", "1 f ", "1  f", "1 f f", "f 1", "+1 f", "1.0 f", "1 " + "f" * 257, " f", "1 0x", "one f", "none f",
            ):
                self.say((f"{word} {rest}", "?"))
        self.say(("cut 1000000 f", "ok"), ("cut 1000000 0", "?"), ("spoil 999999 " + "0f" * 128, "ok"), ("cut 1 " + "0" * 256, "ok"), ("mkdir /a", "cut"))

    def test_bad_blocks(self):
        self.say(("put /a one", "ok"), ("wear", "0 0 0"), ("spoil 1 0f", "ok"), ("put /a two", "ok"), ("wear", "0 0 1"), ("cat /a", "two"), ("check", "right"))
        full = 0
        for lap in range(60):
            self.assertIn(self.shell.say(f"spoil 1 {'f0'[lap % 2]}"), ("ok", "?"))
            answer = self.shell.say(f"put /a {lap}")
            self.assertIn(answer, ("ok", "? Full"))
            kept = str(lap) if answer == "ok" else kept
            full += answer == "? Full"
            self.say(("check", "right"), ("cat /a", kept))
        self.assertGreater(full, 20)
        least, most, bad = self.shell.say("wear").split(" ")
        self.assertGreater(int(bad), 4)
        self.assertLessEqual(int(most), int(least) + 1 + int(bad))

    def test_all_blocks_bad(self):
        shell = Shell(4, 4)
        self.assertEqual(shell.say("put /a x"), "ok")
        # A shell's files stop ahead of that, so the chip is worn down by hand.
        chip = shell._chip
        for block in range(4):
            # An erase that goes bad, torn by 0, leaves all as it was.
            self.assertEqual(shell.say("spoil 1 0"), "ok")
            chip.erase(block)
        lines = ("wear", "check", "cat /a", "put /a y", "rm /a", "mkdir /d", "put /a x", "cut 1 f", "put /a y", "stat /a")
        self.assertEqual([shell.say(line) for line in lines], ["0 0 4", "right", "x", "? Full", "? Full", "? Full", "ok", "ok", "? Full", "file 1 1"])

    def test_on_that_is_cut_itself(self):
        # A shell's own chip needs nothing written when it is opened: another one is laid under it by hand.
        chip = Chip(8, 4, ((1, "cut", "f"), (2, "cut", "0"), (5, "cut", "0f")))
        with self.assertRaises(Cut):
            chip.write(0, "0" * 256)
        self.shell._chip = chip
        self.say(("ls /", "off"), ("on", "cut"), ("on ", "off"), ("check", "off"), ("on", "ok"), ("on", "?"), ("check", "right"), ("ls /", ""), ("put /a x", "cut"))
        self.say(("on", "ok"), ("put /a x", "ok"), ("ls /", "a"))

    def test_what_check_tells_of_an_image_that_files_never_leave(self):
        chip = Chip(8, 4)
        self.shell._chip = chip
        self.say(("check", "none"))
        ground = Ground(chip)
        self.say(("check", "right"))
        ground.commit((("a", "one"),))
        self.say(("check", "wrong 2 tree"))
        chip.write(7, chip.read(2))
        chip.write(8, sealed("root\n9\n3"))
        self.say(("check", "wrong 8 map"))
        for block in (0, 1, 2):
            chip.erase(block)
        chip.write(11, sealed("no root"))
        self.say(("check", "wrong 11 root"))

    def test_wear(self):
        for lap in range(60):
            self.shell.say(f"put /a {lap}")
        least, most, bad = [int(word) for word in self.shell.say("wear").split(" ")]
        self.assertEqual(bad, 0)
        self.assertGreater(least, 1)
        self.assertIn(most - least, (0, 1))


class Refusals(unittest.TestCase):
    def test_sizes(self):
        for value in values_of_all_kinds() + [3, 65, -4, "16", 0]:
            assert_refused(self, BadSize, value, Shell, value, 8)
            assert_refused(self, BadSize, value, Shell, value, None)
        for value in values_of_all_kinds() + [3, 17, -4, "8", 0]:
            assert_refused(self, BadSize, value, Shell, 16, value)
        for blocks, pages in ((4, 4), (64, 16), (4, 16), (64, 4)):
            self.assertEqual(Shell(blocks, pages).say("check"), "right")
        self.assertEqual(Shell(pages=8, blocks=16).say(line="ls /"), "")

    def test_lines(self):
        shell = Shell(8, 4)
        shell.say("put /a one")
        for line in values_of_all_kinds() + [0, 5, ["ls /"], ("ls /",), "ls /\n", "put /a %", "\t", "x" * 701, "put /a \u20ac", "\x7f", "\r"]:
            for lap in range(2):
                assert_refused(self, BadLine, line, shell.say, line)
        self.assertEqual([shell.say("ls /"), shell.say("cut 1 f"), shell.say("rm /a")], ["a", "ok", "cut"])
        assert_refused(self, BadLine, None, shell.say, None)
        assert_refused(self, BadLine, "%", shell.say, "%")
        self.assertEqual([shell.say("ls /"), shell.say("on"), shell.say("ls /")], ["off", "ok", "a"])

    def test_shells_do_not_touch(self):
        one, two = Shell(8, 4), Shell(8, 4)
        self.assertEqual([one.say("put /a x"), one.say("begin"), two.say("end"), two.say("ls /"), one.say("cut 1 f"), one.say("drop"), two.say("put /b y")], [
            "ok", "ok", "?", "", "ok", "ok", "ok",
        ])


if __name__ == "__main__":
    unittest.main()
