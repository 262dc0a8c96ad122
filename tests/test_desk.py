"""Section 14: rows of say, undo, redo, tried and copy beside new shells, cell by cell; journals there and back."""

import random
import unittest

from ground_chips import PATTERNS
from plain_shell import PlainShell, some_line
from refusals import assert_refused, values_of_all_kinds

from worneven.desk import Desk
from worneven.errors import BadJournal, BadLine, BadLines, BadSize, NothingToRedo, NothingToUndo
from worneven.journals import journal, read_journal
from worneven.shell import Shell

NO_LINES = values_of_all_kinds() + [0, ["ls /"], ("ls /",), "ls /\n", "%", "\t", "x" * 701, "\u20ac", "\x7f"]


class DeskCase(unittest.TestCase):
    def check(self, desk, lines, blocks=16, pages=8):
        """The desk is as if just these lines had been said to a new shell."""
        shell = Shell(blocks, pages)
        answers = tuple(shell.say(line) for line in lines)
        self.assertEqual((desk.lines, desk.answers, desk.blocks, desk.pages), (tuple(lines), answers, blocks, pages))
        self.assertTrue(desk.shell._chip == shell._chip)
        self.assertEqual(desk.shell._noted, shell._noted)
        self.assertEqual(journal(desk), "\n".join([f"chip {blocks} {pages}"] + list(lines)))


class Rows(DeskCase):
    def some_line(self, chance, plain):
        draw = chance.random()
        if draw < 0.12:
            return f"{chance.choice(('cut', 'cut', 'spoil'))} {chance.randint(1, 5)} {chance.choice(PATTERNS)}"
        return "on" if draw < 0.25 else some_line(chance, plain)

    def test_drawn_rows(self):
        for seed in range(16):
            chance = random.Random(seed)
            size = ((16, 8), (8, 4), (6, 6))[seed % 3]
            desk, plain = Desk(*size), PlainShell()
            lines, taken = [], []
            for lap in range(70):
                draw = chance.random()
                if draw < 0.6:
                    line = self.some_line(chance, plain)
                    self.assertEqual(desk.say(line), desk.answers[-1])
                    plain.say(line)
                    lines, taken = lines + [line], []
                elif draw < 0.8 and lines:
                    self.assertIsNone(desk.undo())
                    taken.append(lines.pop())
                elif draw < 0.9 and taken:
                    self.assertIsNone(desk.redo())
                    lines.append(taken.pop())
                elif draw < 0.95:
                    self.try_some(chance, desk, plain)
                else:
                    desk = self.copied(desk, lines, taken, size)
                if lap % 5 == 0:
                    self.check(desk, lines, *size)
                    self.assertTrue(read_journal(journal(desk)) == desk)

    def try_some(self, chance, desk, plain):
        rows = tuple(self.some_line(chance, plain) for lap in range(chance.choice((0, 1, 5, 20))))
        told = desk.tried(rows)
        self.assertEqual((desk.tried(rows), len(told)), (told, len(rows)))
        twin = desk.copy()
        self.assertEqual(tuple(twin.say(line) for line in rows), told)

    def copied(self, desk, lines, taken, size):
        """A copy that goes on where the desk stands; what the desk does further on is no matter to it."""
        twin = desk.copy()
        self.assertTrue(twin == desk)
        desk.say("put /elsewhere x")
        desk.undo()
        while desk.lines:
            desk.undo()
        desk.say("mkdir /other")
        self.check(twin, lines, *size)
        for line in reversed(taken):
            twin.redo()
        self.check(twin, lines + taken[::-1], *size)
        for line in taken:
            twin.undo()
        return twin


class ByHand(DeskCase):
    def test_undo_takes_cuts_and_noted_deeds_back_too(self):
        desk = Desk(16, 8)
        rows = ("put /a one", "cut 3 0f", "begin", "put /b x", "rm /a", "end", "put /c x", "ls /", "on", "ls /", "spoil 1 0f", "put /a two", "wear", "wrong", "begin", "rm /a")
        for line in rows:
            desk.say(line)
        self.check(desk, rows)
        for many in range(len(rows) - 1, -1, -1):
            desk.undo()
            self.check(desk, rows[:many])
        for many in range(1, len(rows) + 1):
            desk.redo()
            self.check(desk, rows[:many])

    def test_nothing_to_undo_and_nothing_to_redo(self):
        desk = Desk(16, 8)
        for lap in range(2):
            assert_refused(self, NothingToUndo, None, desk.undo)
            assert_refused(self, NothingToRedo, None, desk.redo)
        desk.say("put /a one")
        assert_refused(self, NothingToRedo, None, desk.redo)
        desk.undo()
        assert_refused(self, NothingToUndo, None, desk.undo)
        self.check(desk, ())
        desk.redo()
        assert_refused(self, NothingToRedo, None, desk.redo)
        self.check(desk, ("put /a one",))

    def test_redo_behind_another_line(self):
        desk = Desk(16, 8)
        for line in ("put /a one", "put /b two", "put /c six"):
            desk.say(line)
        desk.undo()
        desk.undo()
        desk.redo()
        self.check(desk, ("put /a one", "put /b two"))
        desk.say("ls /")
        assert_refused(self, NothingToRedo, None, desk.redo)
        desk.undo()
        desk.redo()
        assert_refused(self, NothingToRedo, None, desk.redo)
        self.check(desk, ("put /a one", "put /b two", "ls /"))

    def test_what_does_not_end_redo(self):
        desk = Desk(16, 8)
        desk.say("put /a one")
        desk.undo()
        self.assertEqual(desk.tried(("put /b x", "ls /")), ("ok", "b"))
        assert_refused(self, BadLine, "%", desk.say, "%")
        assert_refused(self, BadLines, None, desk.tried, None)
        twin = desk.copy()
        desk.redo()
        self.check(desk, ("put /a one",))
        twin.redo()
        self.check(twin, ("put /a one",))
        assert_refused(self, NothingToRedo, None, twin.redo)

    def test_a_line_stands_whatever_the_answer_was(self):
        desk = Desk(16, 8)
        rows = (("", "?"), ("nonsense", "?"), ("rm /", "? Within"), ("cut 1 f", "ok"), ("put /a x", "cut"), ("ls /", "off"))
        for line, answer in rows:
            self.assertEqual(desk.say(line), answer)
        self.assertEqual((desk.lines, desk.answers), (tuple(line for line, _ in rows), tuple(answer for _, answer in rows)))

    def test_tried_amid_noted_deeds_and_without_current(self):
        desk = Desk(16, 8)
        for line in ("put /a one", "begin", "put /b two"):
            desk.say(line)
        self.assertEqual(desk.tried(("end", "ls /", "begin")), ("ok", "a b", "ok"))
        self.assertEqual(desk.tried(("drop", "cut 1 f", "rm /a", "ls /", "on", "ls /")), ("ok", "ok", "cut", "off", "ok", "a"))
        self.check(desk, ("put /a one", "begin", "put /b two"))
        desk.say("cut 1 f")
        desk.say("end")
        self.assertEqual(desk.tried(("ls /", "on", "ls /")), ("off", "ok", "a"))
        self.assertEqual(desk.say("ls /"), "off")

    def test_many_lines_to_be_tried(self):
        desk = Desk(16, 8)
        self.assertEqual(desk.tried(tuple(f"put /f{lap} x" for lap in range(20))), ("ok",) * 20)
        self.assertEqual(desk.tried(()), ())
        self.check(desk, ())
        # No line, and one of 256 signs, may be tried.
        wrong = [value for value in values_of_all_kinds() if value not in ((), ("f" * 256,))] + [0, "ls /", ["ls /"], ("ls /",) * 21, ("ls /", None), ("ls /", "%"), (["ls /"],), {"ls /": 1}]
        wrong += [(line,) for line in NO_LINES] + [("x" * 701,)]
        for lines in wrong:
            assert_refused(self, BadLines, lines, desk.tried, lines)
        self.check(desk, ())

    def test_shell_is_the_one_that_was_said_these_lines(self):
        desk = Desk(16, 8)
        desk.say("put /a one")
        self.assertIsInstance(desk.shell, Shell)
        self.assertIs(desk.shell, desk.shell)
        self.assertEqual(desk.shell.say("ls /"), "a")

    def test_equality(self):
        one, two = Desk(16, 8), Desk(16, 8)
        self.assertTrue(one == two and not one != two)
        one.say("ls /")
        self.assertFalse(one == two)
        two.say("ls / ")
        self.assertFalse(one == two)
        two.undo()
        two.say("ls /")
        self.assertTrue(one == two)
        two.say("cat /")
        two.undo()
        self.assertTrue(one == two)
        for other in (Desk(16, 4), Desk(8, 8), Shell(16, 8), None, 0, "chip 16 8", journal(Desk(16, 8)), (), [Desk(16, 8)], object()):
            self.assertFalse(Desk(16, 8) == other)
            self.assertTrue(Desk(16, 8) != other)

    def test_sizes(self):
        for value in values_of_all_kinds() + [3, 65, -4, "16", 0]:
            assert_refused(self, BadSize, value, Desk, value, 8)
            assert_refused(self, BadSize, value, Desk, value, None)
        for value in values_of_all_kinds() + [3, 17, -4, "8", 0]:
            assert_refused(self, BadSize, value, Desk, 16, value)
        self.check(Desk(pages=4, blocks=64), (), 64, 4)

    def test_lines(self):
        desk = Desk(16, 8)
        desk.say("put /a one")
        for line in NO_LINES:
            assert_refused(self, BadLine, line, desk.say, line)
        self.check(desk, ("put /a one",))
        self.assertEqual(desk.say(line="cat /a"), "one")
        self.assertEqual(desk.tried(lines=("ls /",)), ("a",))


class Journals(DeskCase):
    def test_there_and_back(self):
        for lines in ((), ("",), ("", ""), ("put /a  x ", "", "cut 1 f", "put /a y", "ls /", "on"), (" ", "x" * 700), ("begin", "put /a x")):
            text = "\n".join(("chip 16 8",) + lines)
            desk = read_journal(text)
            self.assertIs(type(desk), Desk)
            self.check(desk, lines)
            self.assertEqual((journal(desk), journal(desk=desk), read_journal(text=text) == desk), (text, text, True))

    def test_many_lines(self):
        text = "\n".join(["chip 4 4"] + [f"put /a {lap}" for lap in range(300)])
        desk = read_journal(text)
        self.assertEqual((desk.shell.say("cat /a"), journal(desk)), ("299", text))
        desk.undo()
        self.assertEqual(desk.say("cat /a"), "298")

    def test_nothing_is_left_to_be_said_again(self):
        desk = Desk(16, 8)
        desk.say("put /a x")
        desk.undo()
        other = read_journal(journal(desk))
        self.assertTrue(other == desk)
        assert_refused(self, NothingToRedo, None, other.redo)

    def test_refusals(self):
        for text in values_of_all_kinds() + [0, ["chip 16 8"], ("chip 16 8",), Desk(4, 4)]:
            assert_refused(self, BadJournal, 0, read_journal, text)
        for line in (
            "", " ", "chip", "chip 16", "chip 16 ", "chip  16 8", "chip 16  8", " chip 16 8", "chip 16 8 ", "chip 16 8 9", "Chip 16 8", "script 16 8", "chip 3 8", "chip 65 8",
            "chip 16 3", "chip 16 17", "chip 016 8", "chip 16 08", "chip +16 8", "chip 16 -8", "chip 0 0", "chip a b", "chip 16,8", "chip 16 8\r", "chip\t16 8", "ls /",
        ):
            for rest in ("", "\nls /", "\n%", "\n" + "x" * 701):
                assert_refused(self, BadJournal, 1, read_journal, line + rest)
        for line in ("%", "ls /\t", "a\rb", "x" * 701, "\u20ac", "\x7f"):
            for number in (2, 3, 120):
                text = "\n".join(["chip 16 8"] + ["ls /"] * (number - 2) + [line, "ls /", "%"])
                assert_refused(self, BadJournal, number, read_journal, text)


if __name__ == "__main__":
    unittest.main()
