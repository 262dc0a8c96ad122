"""Section 13: scripts played, the trees behind their lines, and behind each cut; and what is no script."""

import random
import unittest

from file_stories import BARE
from ground_chips import PATTERNS
from plain_shell import PlainShell, some_line
from refusals import assert_refused, values_of_all_kinds

from worneven.errors import BadPattern, BadScript
from worneven.scripts import cuts, played, trees
from worneven.shell import Shell

STORY = (
    "mkdir /d", "put /d/a twenty signs and one.", "ln /d/a /b", "cat /b", "begin", "write /b 3 ###", "mv /d /e", "rm /no", "end", "begin", "mv /d /e", "trim /b 5", "end",
    "quota /e 5", "put /b longer", "", "put /c " + "x" * 40, "rm /c", "stat /e",
)


def script_of(lines, blocks=16, pages=8):
    return "\n".join((f"script {blocks} {pages}",) + tuple(lines))


def plain_trees(lines):
    """The trees that a plain tree goes through."""
    shell = PlainShell()
    told = [shell.plain.tree()]
    for line in lines:
        shell.say(line)
        told.append(shell.plain.tree())
    return tuple(told)


def with_cut(lines, number, at, pattern):
    """The script up to the line of this number, cut at so many writes and erases of it, and on again."""
    return script_of(lines[:number - 2] + (f"cut {at} {pattern}", lines[number - 2], "on"))


class Played(unittest.TestCase):
    def test_as_a_new_shell_answers(self):
        for lines in (STORY, (), ("",), ("cut 1 f", "put /a x", "ls /", "on", "spoil 1 0f", "put /a x", "wear", "on")):
            shell = Shell(16, 8)
            self.assertEqual(played(script_of(lines)), tuple(shell.say(line) for line in lines))

    def test_drawn_scripts(self):
        for seed in range(20):
            chance, plain = random.Random(seed), PlainShell()
            lines, answers = [], []
            for lap in range(60):
                lines.append(some_line(chance, plain))
                answers.append(plain.say(lines[-1]))
            self.assertEqual(played(script_of(lines, 40, 16)), tuple(answers))

    def test_edges(self):
        self.assertEqual(played("script 4 4"), ())
        self.assertEqual(played("script 64 16\n\n"), ("?", "?"))
        self.assertEqual(played(text="script 16 8\nls /"), ("",))
        self.assertEqual(played(script_of(("ls /",) * 100)), ("",) * 100)
        self.assertEqual(played(script_of(("put /a " + "x" * 593, "z" * 700))), ("ok", "?"))


class Trees(unittest.TestCase):
    def test_the_trees_of_a_story(self):
        self.assertEqual(trees(script_of(STORY)), plain_trees(STORY))
        self.assertEqual(len(set(trees(script_of(STORY)))), 7)
        self.assertEqual((trees("script 4 4"), trees(text="script 64 16\n")), ((BARE,), (BARE, BARE)))

    def test_drawn_scripts(self):
        for seed in range(12):
            chance, plain = random.Random(100 + seed), PlainShell()
            lines = []
            for lap in range(chance.choice((5, 30, 60))):
                line = some_line(chance, plain)
                if line.split(" ")[0] != "on":
                    lines.append(line)
                    plain.say(line)
            told = trees(script_of(lines, 40, 16))
            self.assertEqual(told, plain_trees(lines))
            answers = played(script_of(lines, 40, 16))
            for number, answer in enumerate(answers):
                self.assertTrue(answer == "ok" or told[number] == told[number + 1])


class Cuts(unittest.TestCase):
    def check(self, lines, pattern, every=1):
        """All that cuts tells of the script; of each so-manieth cut, what is played with it."""
        told, behind = cuts(script_of(lines), pattern), trees(script_of(lines))
        numbers = [number for number, _ in told]
        self.assertEqual(numbers, sorted(numbers))
        for row, (number, tree) in enumerate(told):
            self.assertIn(tree, (behind[number - 2], behind[number - 1]))
            if row % every == 0:
                self.check_played(lines, number, 1 + numbers[:row].count(number), pattern, tree)
        return told

    def check_played(self, lines, number, at, pattern, tree):
        """The cut is written into the script: the line is cut there, and on again the tree is the told one."""
        asked = tuple(f"stat {path}" for path, _ in tree) + tuple(f"cat {path}" for path, what in tree if what[0] == "file")
        text = with_cut(lines, number, at, pattern)
        answers = played(text + "\n" + "\n".join(asked + ("check",)))
        behind = answers[-len(asked) - 3:]
        self.assertEqual((behind[:2], behind[-1]), (("cut", "ok"), "right"))
        self.assertEqual([answer for answer in behind[2:] if answer.startswith("?")], [])
        texts = [what[1] for _, what in tree if what[0] == "file"]
        self.assertEqual(list(behind[2 + len(tree):-1]), texts)

    def test_a_story_with_many_patterns(self):
        for pattern in PATTERNS[:5]:
            told = self.check(STORY, pattern, 5)
            self.assertEqual({STORY[number - 2] for number, _ in told}, {
                "mkdir /d", "put /d/a twenty signs and one.", "ln /d/a /b", "end", "quota /e 5", "put /c " + "x" * 40, "rm /c",
            })

    def test_patterns_that_tear_all_and_nothing(self):
        lines = ("put /a one", "put /a two")
        for pattern, last in (("f", 0), ("0", 1), ("f" * 256, 0), ("0" * 256, 1)):
            told, behind = cuts(script_of(lines), pattern), trees(script_of(lines))
            for number in (2, 3):
                row = [tree for at, tree in told if at == number]
                # Only the last write, that of the root page, can be as good as done.
                self.assertEqual(row[:-1], [behind[number - 2]] * (len(row) - 1))
                self.assertEqual(row[-1], behind[number - 2 + last])

    def test_as_many_as_there_are_writes_and_erases(self):
        lines = tuple(f"put /a {lap}" for lap in range(30))
        told = cuts(script_of(lines, 4, 4), "0f")
        shell, done = Shell(4, 4), []
        for number, line in enumerate(lines, 2):
            before = shell._chip.done
            shell.say(line)
            done += [number] * (shell._chip.done - before)
        self.assertEqual([number for number, _ in told], done)
        self.assertGreater(len(done), 70)

    def test_drawn_scripts(self):
        for seed in range(5):
            chance, plain = random.Random(200 + seed), PlainShell()
            lines = []
            while len(lines) < 25:
                line = some_line(chance, plain)
                if line.split(" ")[0] != "on":
                    lines.append(line)
                    plain.say(line)
            self.check(tuple(lines), chance.choice(PATTERNS), 7)

    def test_scripts_that_write_nothing(self):
        for lines in ((), ("",), ("ls /", "cat /no", "rm /", "check", "wear", "begin", "put /a x", "drop", "begin", "end")):
            self.assertEqual(cuts(script_of(lines), "0f"), ())
        self.assertEqual(cuts(pattern="f", text="script 4 4"), ())


class ScriptRefusals(unittest.TestCase):
    def all_refuse(self, number, text):
        assert_refused(self, BadScript, number, played, text)
        assert_refused(self, BadScript, number, trees, text)
        for pattern in ("f", "", None):
            assert_refused(self, BadScript, number, cuts, text, pattern)

    def test_what_is_no_string(self):
        for text in values_of_all_kinds() + [0, ["script 16 8"], ("script 16 8",)]:
            self.all_refuse(0, text)

    def test_the_first_line(self):
        for line in (
            "", " ", "script", "script 16", "script 16 ", "script  16 8", "script 16  8", " script 16 8", "script 16 8 ", "script 16 8 9", "Script 16 8", "scripts 16 8",
            "script 3 8", "script 65 8", "script 16 3", "script 16 17", "script 016 8", "script 16 08", "script +16 8", "script 16 -8", "script 0 0", "script a b",
            "script 16,8", "chip 16 8", "script 16 8\r", "script\t16 8", "script 16 8.0", "ls /", "script 99999999999 8", "script 16 None",
        ):
            for rest in ("", "\nls /", "\n%", "\n" + "x" * 701):
                self.all_refuse(1, line + rest)

    def test_later_lines(self):
        for line in ("%", "ls /\t", "a\rb", "x" * 701, "\u20ac", "\x7f", "put /a " + "y" * 694):
            self.all_refuse(2, script_of((line,)))
            self.all_refuse(4, script_of(("ls /", "cut 1 f", line, "%")))
            self.all_refuse(101, script_of(("ls /",) * 99 + (line,)))
        self.all_refuse(102, script_of(("ls /",) * 101))
        self.all_refuse(102, script_of(("ls /",) * 100 + ("%",)))
        self.all_refuse(102, script_of(("ls /",) * 200))
        self.all_refuse(50, script_of(("ls /",) * 48 + ("%",) + ("ls /",) * 100))
        self.all_refuse(102, "script 16 8" + "\n" * 101)

    def test_faults_in_scripts_of_trees_and_cuts(self):
        for line in ("cut 1 f", "cut", "cut ", "cut x y z", "spoil 1 f", "spoil", "on", "on ", "on again"):
            for number in (2, 3, 101):
                text = script_of(("cuts", " on", "one", "put /cut x")[:number - 2] + ("",) * (number - 6) + (line, "on", "cut 1 f")[:102 - number])
                assert_refused(self, BadScript, number, trees, text)
                assert_refused(self, BadScript, number, cuts, text, "f")
                assert_refused(self, BadScript, number, cuts, text, None)
                self.assertEqual(len(played(text)), text.count("\n"))
        # What is no script at all is told ahead of that.
        self.all_refuse(3, script_of(("on", "%")))
        self.assertEqual(trees(script_of(("Cut 1 f", " on", "ons", "cuts 1 f", "put /on x"))), trees(script_of(("", "", "", "", "put /on x"))))

    def test_patterns(self):
        text = script_of(("put /a x",))
        for pattern in values_of_all_kinds() + [0, "", "g", "F", "0 ", "f" * 257, "0x", "\n", ("f",), ["f"]]:
            assert_refused(self, BadPattern, pattern, cuts, text, pattern)
        for pattern in ("f", "0", "0123456789abcdef" * 16, "f" * 256):
            self.assertEqual(len(cuts(text, pattern)), 2)


if __name__ == "__main__":
    unittest.main()
