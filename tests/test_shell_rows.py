"""Section 12: rows of drawn lines beside a plain tree of the tests' own, with cuts and bad blocks, and copies."""

import random
import unittest

from ground_chips import PATTERNS
from plain_files import PlainFiles
from plain_shell import PlainShell, some_line

from worneven.checker import judged
from worneven.shell import Shell

SIZES = ((16, 8), (8, 6), (24, 4))


def tree_in(shell):
    """The told tree that lies in the cells of the shell's chip."""
    told = judged(shell._chip.image(), shell._chip.pages)
    assert told[0] == "right", told
    return told[1]


class Rows(unittest.TestCase):
    def test_drawn_lines(self):
        counted = {}
        for seed in range(24):
            chance = random.Random(seed)
            shell, plain = Shell(*SIZES[seed % 3]), PlainShell()
            for lap in range(110):
                line = some_line(chance, plain)
                root = plain.plain.root
                answer, expected = shell.say(line), plain.say(line)
                if answer == "? Full" and expected == "ok":
                    plain.plain.root, expected = root, "? Full"
                self.assertEqual(answer, expected, line)
                word = answer if answer.startswith("?") or answer in ("ok", "noted", "right") else "told"
                counted[word] = counted.get(word, 0) + 1
                if lap % 10 == 0:
                    self.assertEqual(tree_in(shell), plain.plain.tree())
        self.assertGreater(min(counted[word] for word in ("ok", "noted", "right", "told", "?", "? NoPath", "? There", "? BadPath")), 20)

    def cut_row(self, seed):
        """Drawn lines amid cuts and bad blocks: the tree is the one behind the last ok, or behind the cut one."""
        chance = random.Random(seed)
        shell, plain = Shell(*((16, 8), (6, 4), (8, 4))[seed % 3]), PlainShell()
        counted = {"cut": 0, "? Full": 0}
        for lap in range(90):
            if chance.random() < 0.25:
                word = chance.choice(("cut", "cut", "cut", "spoil")) if seed % 2 else "cut"
                self.assertIn(shell.say(f"{word} {chance.choice((1, 1, 2, 3, 6))} {chance.choice(PATTERNS)}"), ("ok", "?"))
            line = some_line(chance, plain)
            root = plain.plain.root
            answer, expected = shell.say(line), plain.say(line)
            counted[answer] = counted.get(answer, 0) + 1
            if answer == "cut":
                self.come_on_again(chance, shell, plain, root)
            elif answer == "? Full" and expected == "ok":
                plain.plain.root = root
            else:
                self.assertEqual(answer, expected, line)
            self.assertEqual((tree_in(shell), shell.say("check")), (plain.plain.tree(), "right"))
        return counted

    def come_on_again(self, chance, shell, plain, root):
        for lap in range(3):
            self.assertEqual(shell.say(chance.choice(("ls /", "check", "wear", "begin", "put /a x", "?", "cut 1 f", "on "))), "off")
        elder = PlainFiles()
        elder.root = root
        both = (elder.tree(), plain.plain.tree())
        self.assertIn(tree_in(shell), both)
        self.assertEqual((shell.say("on"), shell.say("end")), ("ok", "?"))
        plain.noted = None
        plain.plain.root = root if tree_in(shell) == both[0] else plain.plain.root

    def test_drawn_lines_amid_cuts_and_bad_blocks(self):
        rows = [self.cut_row(seed) for seed in range(18)]
        self.assertGreater(sum(row["cut"] for row in rows), 80)
        self.assertGreater(sum(row["? Full"] for row in rows), 5)

    def test_copies_go_on_as_the_shell_does(self):
        for seed in range(8):
            chance = random.Random(seed)
            shell, plain = Shell(*SIZES[seed % 3]), PlainShell()
            for lap in range(50):
                if chance.random() < 0.2:
                    shell.say(f"{chance.choice(('cut', 'spoil'))} {chance.randint(1, 4)} {chance.choice(PATTERNS)}")
                line = some_line(chance, plain) if chance.random() < 0.9 else "on"
                twin, idle = shell.copy(), shell.copy()
                answer = shell.say(line)
                self.assertEqual(twin.say(line), answer)
                self.assertTrue(twin._chip == shell._chip)
                # What was said to the others was not said to this one.
                self.assertEqual(idle.say(line), answer)
                self.assertTrue(idle._chip == shell._chip)
                plain.say(line)


if __name__ == "__main__":
    unittest.main()
