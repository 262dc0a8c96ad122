"""Scripts: lines for a new shell, what it answers, which trees lie behind them, and behind each cut."""

from worneven.errors import BadPattern, BadScript
from worneven.lines import first_word, first_wrong_line, size_told
from worneven.shell import Shell
from worneven.words import is_pattern

# The first line, and 100 for the shell.
MOST_LINES = 101
FAULT_WORDS = ("cut", "spoil", "on")


def lines_in(text):
    """The shell and the lines of the script."""
    wrong = first_wrong_line(text, "script", MOST_LINES)
    if wrong is not None:
        raise BadScript(wrong)
    first, *lines = text.split("\n")
    blocks, pages = size_told(first, "script")
    return Shell(blocks, pages), lines


def plain_lines_in(text):
    """The same, of a script in which nothing is cut or spoiled."""
    shell, lines = lines_in(text)
    for number, line in enumerate(lines, 2):
        if first_word(line) in FAULT_WORDS:
            raise BadScript(number)
    return shell, lines


def played(text):
    """The answers to all lines of the script."""
    shell, lines = lines_in(text)
    return tuple([shell.say(line) for line in lines])


def trees(text):
    """The told trees at the beginning and behind each line."""
    shell, lines = plain_lines_in(text)
    told = [shell.tree()]
    for line in lines:
        shell.say(line)
        told.append(shell.tree())
    return tuple(told)


def trees_behind_cuts(shell, line, pattern):
    """For each write and erase of the line, the told tree if the current is cut there and is on again."""
    told = []
    while True:
        twin = shell.copy()
        twin.say(f"cut {len(told) + 1} {pattern}")
        twin.say(line)
        # The line is done before it comes to that write or erase.
        if twin.has_current():
            return told
        twin.say("on")
        told.append(twin.tree())


def cuts(text, pattern):
    """(line, tree) for each write and erase of the script, the tree being the one behind a cut just there."""
    shell, lines = plain_lines_in(text)
    if not is_pattern(pattern):
        raise BadPattern(pattern)
    told = []
    for number, line in enumerate(lines, 2):
        told.extend([(number, tree) for tree in trees_behind_cuts(shell, line, pattern)])
        shell.say(line)
    return tuple(told)
