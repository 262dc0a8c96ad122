"""A desk: a shell under hands, whose lines can be taken back and said again."""

from worneven.errors import BadLines, NothingToRedo, NothingToUndo
from worneven.shell import Shell
from worneven.words import is_line

MOST_TRIED = 20


def are_lines(value):
    """Whether it is a tuple of lines for a shell, few enough to be tried."""
    return isinstance(value, tuple) and len(value) <= MOST_TRIED and all([is_line(line) for line in value])


class Desk:
    """A new shell, and the lines that were said to it."""

    def __init__(self, blocks, pages):
        self._shell = Shell(blocks, pages)
        self._blocks = blocks
        self._pages = pages
        self._lines = []
        self._answers = []
        # For each line that stands, the shell as it was ahead of it. Nothing is ever said to these.
        self._ahead = []
        # The lines that were taken back and can be said again, the first to come last.
        self._taken = []

    @property
    def shell(self):
        """The shell to which just the lines that stand were said."""
        return self._shell

    @property
    def lines(self):
        """The lines that stand."""
        return tuple(self._lines)

    @property
    def answers(self):
        """The answers to the lines that stand."""
        return tuple(self._answers)

    @property
    def blocks(self):
        """How many blocks the chip has."""
        return self._blocks

    @property
    def pages(self):
        """How many pages a block has."""
        return self._pages

    def say(self, line):
        """The answer to the line, which stands."""
        answer = self._said(line)
        self._taken = []
        return answer

    def undo(self):
        """Takes the last line that stands back."""
        if not self._lines:
            raise NothingToUndo(None)
        self._taken.append(self._lines.pop())
        self._answers.pop()
        # Other desks may have the same shell among theirs.
        self._shell = self._ahead.pop().copy()

    def redo(self):
        """Says the line again that was taken back last."""
        if not self._taken:
            raise NothingToRedo(None)
        self._said(self._taken.pop())

    def tried(self, lines):
        """The answers that these lines would get."""
        if not are_lines(lines):
            raise BadLines(lines)
        shell = self._shell.copy()
        return tuple([shell.say(line) for line in lines])

    def copy(self):
        """A desk of its own, alike in all things."""
        twin = Desk(self._blocks, self._pages)
        twin._shell = self._shell.copy()
        twin._lines = list(self._lines)
        twin._answers = list(self._answers)
        twin._ahead = list(self._ahead)
        twin._taken = list(self._taken)
        return twin

    def __eq__(self, other):
        return isinstance(other, Desk) and self._told() == other._told()

    def _told(self):
        """All that makes desks alike."""
        return self._blocks, self._pages, self._lines

    def _said(self, line):
        """The answer to the line, which stands, whatever it was."""
        ahead = self._shell.copy()
        answer = self._shell.say(line)
        self._lines.append(line)
        self._answers.append(answer)
        self._ahead.append(ahead)
        return answer
