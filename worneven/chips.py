"""A flash chip of blocks of pages of cells, with the faults that it shall have."""

from worneven.codes import text_told
from worneven.errors import BadBlock, BadCells, BadFade, BadFaults, BadPlace, BadSize, Cut, NotEmpty
from worneven.words import EMPTY_PAGE, PAGE_CELLS, is_between, is_cell, is_integer, is_page, is_pattern

# The word of a deed for which no fault is told.
NO_FAULT = ""


def is_fault(value):
    """Whether it is (at, word, pattern) by its form, whatever the integer at is."""
    if not isinstance(value, tuple) or len(value) != 3:
        return False
    at, word, pattern = value
    return is_integer(at) and word in ("cut", "bad") and is_pattern(pattern)


def are_faults(value):
    """Whether it is a tuple of faults, ascending by unlike numbers of deeds."""
    if not isinstance(value, tuple):
        return False
    last = 0
    for fault in value:
        if not is_fault(fault) or fault[0] <= last:
            return False
        last = fault[0]
    return True


def torn(cells, pattern):
    """The page of which each cell is the greater one of its own and the pattern's there."""
    times = PAGE_CELLS // len(pattern) + 1
    # Among the 16 signs, Python's order of characters is that of their worth.
    return "".join([max(cell, over) for cell, over in zip(cells, pattern * times)])


class Chip:
    """A chip whose cells fall page by page, and are lifted block by block only."""

    def __init__(self, blocks, pages, faults=()):
        if not is_between(blocks, 4, 64):
            raise BadSize(blocks)
        if not is_between(pages, 4, 16):
            raise BadSize(pages)
        if not are_faults(faults):
            raise BadFaults(faults)
        self._blocks = blocks
        self._pages = pages
        self._faults = faults
        self._fault_at = {at: (word, pattern) for at, word, pattern in faults}
        self._cells = [EMPTY_PAGE] * (blocks * pages)
        # Whether a page stands just as it was written, so that a cell of it may fall.
        self._stands = [False] * (blocks * pages)
        # The cells that were read for a text last, and that text: the same page need not be read again.
        self._texts = [(EMPTY_PAGE, None)] * (blocks * pages)
        self._wear = [0] * blocks
        self._is_bad = [False] * blocks
        self._done = 0
        self._cuts = 0
        self._has_current = True

    @property
    def blocks(self):
        """How many blocks the chip has."""
        return self._blocks

    @property
    def pages(self):
        """How many pages a block has."""
        return self._pages

    @property
    def wear(self):
        """How many erases were begun on each block."""
        return tuple(self._wear)

    @property
    def bad(self):
        """The numbers of the bad blocks, ascending."""
        return tuple([block for block in range(self._blocks) if self._is_bad[block]])

    @property
    def done(self):
        """How many deeds there were."""
        return self._done

    @property
    def cuts(self):
        """How many cuts there were."""
        return self._cuts

    @property
    def is_on(self):
        """Whether there is current."""
        return self._has_current

    def read(self, place):
        """The cells of the page at this place."""
        self._check_place(place)
        return self._cells[place]

    def text(self, place):
        """The text of the page at this place, be it whole or mended; None if it is neither."""
        cells = self.read(place)
        if self._texts[place][0] != cells:
            self._texts[place] = (cells, text_told(cells))
        return self._texts[place][1]

    def write(self, place, cells):
        """Lets the cells of an empty page fall to these: whether it did, wholly."""
        self._check_place(place)
        if not is_page(cells):
            raise BadCells(cells)
        if self._cells[place] != EMPTY_PAGE:
            raise NotEmpty(place)
        word, pattern = self._next_deed()
        block = place // self._pages
        if not self._is_bad[block]:
            # A page that a whole write left empty may be torn by a later one: it stands no more.
            self._stands[place] = word == NO_FAULT
            self._cells[place] = cells if word == NO_FAULT else torn(cells, pattern)
        return self._deed_told(block, word)

    def erase(self, block):
        """Lifts all cells of the block to f, and wears it: whether it did, wholly."""
        if not is_between(block, 0, self._blocks - 1):
            raise BadBlock(block)
        word, pattern = self._next_deed()
        if not self._is_bad[block]:
            self._wear[block] += 1
            for place in range(block * self._pages, (block + 1) * self._pages):
                self._stands[place] = False
                self._cells[place] = EMPTY_PAGE if word == NO_FAULT else torn(self._cells[place], pattern)
        return self._deed_told(block, word)

    def again(self):
        """The current comes on again."""
        self._has_current = True

    def fade(self, place, cell, sign):
        """Lets one cell of a page that stands just as it was written fall by itself."""
        self._check_place(place)
        if not self._may_fall(place, cell, sign):
            raise BadFade((cell, sign))
        cells = self._cells[place]
        self._cells[place] = cells[:cell] + sign + cells[cell + 1:]
        self._stands[place] = False

    def doom(self, ahead, word, pattern):
        """Tells a fault more, for the deed so many from now: whether none was told for it yet."""
        at = self._done + ahead
        if at in self._fault_at:
            return False
        self._fault_at[at] = (word, pattern)
        self._faults = tuple(sorted([*self._faults, (at, word, pattern)]))
        return True

    def image(self):
        """The cells of all pages, by places."""
        return tuple(self._cells)

    def copy(self):
        """A chip of its own, alike in all things, also in the faults that are to come."""
        twin = Chip(self._blocks, self._pages, self._faults)
        twin._cells = list(self._cells)
        twin._stands = list(self._stands)
        twin._texts = list(self._texts)
        twin._wear = list(self._wear)
        twin._is_bad = list(self._is_bad)
        twin._done = self._done
        twin._cuts = self._cuts
        twin._has_current = self._has_current
        return twin

    def __eq__(self, other):
        if not isinstance(other, Chip):
            return False
        return self._state() == other._state()

    def _check_place(self, place):
        if not is_between(place, 0, self._blocks * self._pages - 1):
            raise BadPlace(place)

    def _may_fall(self, place, cell, sign):
        if not is_between(cell, 0, PAGE_CELLS - 1) or not is_cell(sign):
            return False
        cells = self._cells[place]
        return cells != EMPTY_PAGE and self._stands[place] and sign < cells[cell]

    def _next_deed(self):
        """Counts a deed, which needs current: the word and the pattern of its fault."""
        if not self._has_current:
            raise Cut(None)
        self._done += 1
        return self._fault_at.get(self._done, (NO_FAULT, "f"))

    def _deed_told(self, block, word):
        """What a write or an erase on this block tells, as its fault comes to pass."""
        if word == "cut":
            self._cuts += 1
            self._has_current = False
            raise Cut(None)
        if word == "bad":
            self._is_bad[block] = True
        return not self._is_bad[block]

    def _state(self):
        """All that makes chips alike, and nothing else."""
        # Of an empty page nobody can ask whether it stands: no cell of it may fall.
        places = [place for place in range(len(self._cells)) if self._cells[place] != EMPTY_PAGE]
        standing = [place for place in places if self._stands[place]]
        told = (self._blocks, self._pages, self._faults, self._done, self._cuts, self._has_current)
        return told, self.wear, self.bad, self.image(), standing
