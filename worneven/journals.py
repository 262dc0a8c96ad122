"""Journals: the lines that stand on a desk, as text and back."""

from worneven.desk import Desk
from worneven.errors import BadJournal
from worneven.lines import first_wrong_line, size_told


def journal(desk):
    """The text that tells the desk's chip and the lines that stand."""
    return "\n".join([f"chip {desk.blocks} {desk.pages}", *desk.lines])


def read_journal(text):
    """The desk of which this is the journal."""
    wrong = first_wrong_line(text, "chip")
    if wrong is not None:
        raise BadJournal(wrong)
    first, *lines = text.split("\n")
    blocks, pages = size_told(first, "chip")
    desk = Desk(blocks, pages)
    for line in lines:
        desk.say(line)
    return desk
