"""What tests of grounds share: chips that are watched at each deed, further faults, chips written by hand."""

from map_pages import changed_dict as dict_behind
from map_pages import sorted_items as items_of_dict
from reading import plain_meaning
from sealing import plain_sealed

from worneven.chips import Chip
from worneven.errors import Cut
from worneven.grounds import Ground

__all__ = (
    "ALL", "PATTERNS", "NotedChip", "WatchedChip", "cut_behind", "deeds_of", "dict_behind", "items_of_dict", "opened_anew",
    "wear_promised", "with_faults", "written_chip",
)
PATTERNS = ("f", "0", "0f", "f0", "0123456789abcdef", "f" * 100 + "0" * 100 + "7", "0" * 200 + "f" * 56)
ALL = ("!", "~" * 13)


class NotedChip(Chip):
    """A chip that notes what it was told to write and to erase."""

    def __init__(self, blocks, pages, faults=()):
        super().__init__(blocks, pages, faults)
        self.noted = []

    def write(self, place, cells):
        self.noted.append(("write", place, cells))
        return super().write(place, cells)

    def erase(self, block):
        self.noted.append(("erase", block))
        return super().erase(block)


def with_faults(chip, faults, kind=Chip):
    """A copy of the chip that has these faults ahead: (deeds from now, word, pattern)."""
    ahead = {chip.done + at: (word, pattern) for at, word, pattern in faults}
    twin = kind(chip.blocks, chip.pages, tuple((at, *ahead[at]) for at in sorted(ahead)))
    # A chip can't be told faults later; all else is as the copy has it.
    told = chip.copy()
    for name in ("_cells", "_stands", "_wear", "_is_bad", "_done", "_cuts", "_has_current"):
        setattr(twin, name, getattr(told, name))
    return twin


def deeds_of(chip, deed):
    """How many deeds of the chip are done if the ground that lies on it does this, and nothing goes wrong."""
    twin = with_faults(chip, ())
    done = twin.done
    deed(Ground(twin))
    return twin.done - done


def wear_promised(chip):
    """Whether no good block was erased more often than the least erased one and what the document allows."""
    good = [wear for block, wear in enumerate(chip.wear) if block not in chip.bad]
    return not good or max(good) <= min(good) + 1 + chip.cuts + len(chip.bad)


def opened_anew(chip):
    """The ground behind a cut: nothing else may be written when it is opened."""
    if not chip.is_on:
        chip.again()
    image, done = chip.image(), chip.done
    ground = Ground(chip)
    assert (chip.image(), chip.done) == (image, done)
    return ground


class WatchedChip(Chip):
    """A chip that looks, behind each deed, whether its image means one of the maps that it may, and at its wear."""

    def __init__(self, blocks, pages, faults=()):
        super().__init__(blocks, pages, faults)
        self.may_mean = None

    def write(self, place, cells):
        try:
            return super().write(place, cells)
        finally:
            self.watch()

    def erase(self, block):
        try:
            return super().erase(block)
        finally:
            self.watch()

    def watch(self):
        assert wear_promised(self), (self.wear, self.bad, self.cuts)
        if self.may_mean is not None:
            told = plain_meaning(self.image())
            assert told[0] == "map" and told[2] in self.may_mean, told


def written_chip(blocks, pages, texts, bad=()):
    """A chip on which these page texts, or pages of cells, lie by places."""
    chip = Chip(blocks, pages)
    for place in sorted(texts):
        cells = texts[place] if len(texts[place]) == 256 else plain_sealed(texts[place])
        chip.write(place, cells)
    for block in bad:
        chip = with_faults(chip, ((1, "bad", "0"),))
        chip.erase(block)
    return chip


def cut_behind(chip, at, pattern, deed):
    """The chip behind a cut at this deed, counted from now, of what the ground on it does; None if there is none."""
    twin = with_faults(chip, ((at, "cut", pattern),))
    try:
        deed(Ground(twin))
    except Cut:
        return twin
    return None
