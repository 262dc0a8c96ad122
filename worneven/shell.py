"""A shell: a chip with files on it, used by lines."""

from worneven.checker import judged, wear_of_good
from worneven.chips import Chip
from worneven.errors import BadLine, Cut, FlashError
from worneven.files import MOST_DEEDS, Files
from worneven.lines import DEED_WORDS, told_by
from worneven.words import is_line

NO_FORM = "?"


class Shell:
    """A new chip with files on it, to which lines are said."""

    def __init__(self, blocks, pages):
        self._chip = Chip(blocks, pages)
        self._files = Files(self._chip)
        # The deeds that are noted since begin; None without one.
        self._noted = None

    def say(self, line):
        """The answer to the line."""
        if not is_line(line):
            raise BadLine(line)
        if not self._chip.is_on and line != "on":
            return "off"
        told = told_by(line)
        if told is None:
            return NO_FORM
        first, values = told
        try:
            return self._answer(first, values)
        except Cut:
            return "cut"
        except FlashError as error:
            return "? " + type(error).__name__

    def copy(self):
        """A shell of its own, alike in all things."""
        twin = Shell(self._chip.blocks, self._chip.pages)
        twin._chip = self._chip.copy()
        # The chip is opened when files are asked for: most copies never are.
        twin._files = None
        twin._noted = None if self._noted is None else list(self._noted)
        return twin

    def has_current(self):
        """Whether the current is on."""
        return self._chip.is_on

    def tree(self):
        """The told tree of the files on the chip."""
        return self._opened().tree()

    def _opened(self):
        """The files on the chip."""
        if self._files is None:
            self._files = Files(self._chip)
        return self._files

    def _answer(self, first, values):
        """The answer to a line with this first word and these values behind it."""
        if first in DEED_WORDS:
            return self._deed((DEED_WORDS[first], *values))
        if first in ("begin", "end", "drop"):
            return self._noting(first)
        if first in ("cat", "ls", "stat"):
            return self._reading(first, values[0])
        if first in ("cut", "spoil"):
            ahead, pattern = values
            return "ok" if self._chip.doom(ahead, "cut" if first == "cut" else "bad", pattern) else NO_FORM
        if first == "on":
            return self._on()
        return self._check_told() if first == "check" else self._wear_told()

    def _deed(self, deed):
        """Does the deed, or notes it."""
        if self._noted is None:
            self._opened().together((deed,))
            return "ok"
        if len(self._noted) == MOST_DEEDS:
            return NO_FORM
        self._noted.append(deed)
        return "noted"

    def _noting(self, word):
        """Begins to note deeds, or does or forgets them."""
        if (word == "begin") != (self._noted is None):
            return NO_FORM
        if word == "begin":
            self._noted = []
            return "ok"
        deeds = tuple(self._noted)
        self._noted = None
        if word == "end":
            self._opened().together(deeds)
        return "ok"

    def _reading(self, word, path):
        """What is told of the path."""
        files = self._opened()
        if word == "cat":
            return files.read(path)
        if word == "ls":
            return " ".join(files.names(path))
        told = files.look(path)
        if told[0] == "file":
            return f"file {told[1]} {len(told[2])}"
        _, many, quota, used = told
        return " ".join(["folder", str(many), "none" if quota is None else str(quota), str(used)])

    def _on(self):
        """The current comes on again, and the chip is opened."""
        if self._chip.is_on:
            return NO_FORM
        self._chip.again()
        self._noted = None
        self._files = None
        self._opened()
        return "ok"

    def _check_told(self):
        """What the checker judges of the image."""
        told = judged(self._chip.image(), self._chip.pages)
        if told[0] != "wrong":
            return told[0]
        _, place, why = told
        return f"wrong {place} {why}"

    def _wear_told(self):
        """How the good blocks wear, and how many are bad."""
        least, most = wear_of_good(self._chip)
        return f"{least} {most} {len(self._chip.bad)}"
