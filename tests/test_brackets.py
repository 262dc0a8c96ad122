"""Sections 9 to 14: what stands in brackets behind the examples of the document."""

import unittest

from refusals import assert_refused

from worneven.checker import health, judged, states
from worneven.chips import Chip
from worneven.desk import Desk
from worneven.errors import BadJournal, NoPath, NotFolder, OverQuota, Within
from worneven.files import Files
from worneven.grounds import Ground
from worneven.journals import read_journal
from worneven.quotas import used
from worneven.scripts import cuts, played
from worneven.shell import Shell


class OfFiles(unittest.TestCase):
    def files(self):
        files = Files(Chip(16, 8))
        files.make_folder("/docs")
        files.put("/docs/a", "hello")
        files.add_name("/docs/a", "/b")
        files.write("/b", 5, " you")
        return files

    def test_what_docs_uses(self):
        files = self.files()
        self.assertEqual((files.look("/docs"), used(files.tree(), "/docs")), (("folder", 1, None, 9), 9))
        files.quota("/docs", 12)
        assert_refused(self, OverQuota, "/docs", files.write, "/b", 9, "12345")
        files.write("/b", 9, "123")

    def test_refusals(self):
        files = self.files()
        files.together((("make_folder", "/x"), ("move", "/docs", "/x/old")))
        assert_refused(self, Within, "/x/y", files.move, "/x", "/x/y")
        assert_refused(self, NoPath, "/x/no", files.read, "/x/no/b")
        assert_refused(self, NotFolder, "/b", files.names, "/b/c")


class OfQuotas(unittest.TestCase):
    def test_each_counts_once(self):
        five, three = ("file", "hello", ("/a/x", "/b")), ("file", "abc", ("/a/y", "/a/z"))
        rows = (("/", ("folder", None)), ("/a", ("folder", 10)), ("/a/x", five), ("/a/y", three), ("/a/z", three), ("/b", five))
        self.assertEqual((used(rows, "/a"), used(rows, "/")), (8, 8))


class OfTheChecker(unittest.TestCase):
    def test_the_pages_of_the_chip_of_files(self):
        chip = Chip(16, 8)
        files = Files(chip)
        files.make_folder("/a")
        self.assertEqual(states(chip.image(), 8)[:6], ("old", "old", "old", "living", "root", "empty"))
        self.assertEqual(health(chip)[:2], (("empty", 123), ("torn", 0)))

    def test_the_map_of_the_key_a_is_no_tree(self):
        chip = Chip(4, 4)
        Ground(chip).commit((("a", "one"),))
        image, empty = chip.image(), ("f" * 256,)
        self.assertEqual(judged(image, 4), ("wrong", 2, "tree"))
        self.assertEqual(judged(image[:2] + empty + image[3:], 4), ("right", (("/", ("folder", None)),)))
        self.assertEqual(states(image[:2] + empty + image[3:], 4)[:3], ("root", "old", "empty"))


class OfTheShell(unittest.TestCase):
    def test_with_the_pattern_f_nothing_was_written(self):
        shell = Shell(16, 8)
        for line in ("mkdir /a", "cut 1 f"):
            shell.say(line)
        image = shell._chip.image()
        self.assertEqual((shell.say("put /e new"), shell._chip.image() == image), ("cut", True))


class OfScripts(unittest.TestCase):
    def test_just_the_lines_that_write_can_be_cut(self):
        script = "script 16 8\nput /a one\ncat /a\nrm /a\nrm /a"
        self.assertEqual({number for number, _ in cuts(script, "0f")}, {2, 4})
        self.assertEqual((cuts(script, "f")[0][1], played("script 16 8\n")), ((("/", ("folder", None)),), ("?",)))


class OfDesks(unittest.TestCase):
    def test_six_of_seven_lines(self):
        desk = Desk(16, 8)
        for line in ("put /a one", "cut 1 f", "put /a two", "cat /a", "on", "cat /a", "stat /a"):
            desk.say(line)
        for lap in range(6):
            desk.undo()
        self.assertEqual((desk.lines, desk.say("put /a two"), desk.say("put /a six")), (("put /a one",), "ok", "ok"))

    def test_a_line_of_701_signs(self):
        assert_refused(self, BadJournal, 2, read_journal, "chip 16 8\n" + "x" * 701)


if __name__ == "__main__":
    unittest.main()
