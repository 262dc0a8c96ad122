"""The ring: in which sequence the pages of a chip are written, round and round, so that all blocks wear alike."""

from worneven.codes import sealed
from worneven.errors import Full
from worneven.roots import root_in
from worneven.words import EMPTY_PAGE


class Ring:
    """Where on a chip the next page is written. Kept blocks, a dict by their numbers, are never erased."""

    def __init__(self, chip):
        self._chip = chip
        # The block in hand, and how many of its pages are used up: a chip is begun with block 0.
        self._block = chip.blocks - 1
        self._used = chip.pages

    def blocks_of(self, places):
        """The blocks in which these places are, as a dict by their numbers."""
        return {place // self._chip.pages: True for place in places}

    def go_behind(self, place):
        """The ring goes on in the block of this page, which is not empty, where all behind is; or with the next one."""
        pages = self._chip.pages
        self._block = place // pages
        self._used = pages
        while self._chip.read(self._block * pages + self._used - 1) == EMPTY_PAGE:
            self._used -= 1

    def write(self, text, kept):
        """Writes this page text to the next page: the place at which it lies. The blocks taken are kept now."""
        cells = sealed(text)
        place = self._next_place(kept)
        while not self._chip.write(place, cells):
            # A root that is whole all the same must stay the only one of its number.
            if root_in(text) is not None and self._chip.read(place) == cells:
                break
            place = self._next_place(kept)
        return place

    def ahead(self, many, kept):
        """The places of the next pages that are written, so many, if no block goes bad; None if there is no room."""
        taken = {block: True for block in kept}
        block = self._block
        used = self._used
        most = self._most_wear()
        places = []
        while len(places) < many:
            if used == self._chip.pages or block in self._chip.bad:
                block = self._block_behind(block, taken, most)
                used = 0
                if block is None:
                    return None
                most = max(most, self._chip.wear[block] + (0 if self._is_empty(block) else 1))
            taken[block] = True
            places.append(block * self._chip.pages + used)
            used += 1
        return places

    def room(self, kept):
        """How many pages the ring can write until it comes to a kept block that is not bad."""
        return self._room_behind(self._block, self._used, kept)

    def room_behind(self, place, kept):
        """The same, were the page at this place written last."""
        return self._room_behind(place // self._chip.pages, place % self._chip.pages + 1, kept)

    def _room_behind(self, block, used, kept):
        blocks = self._chip.blocks
        pages = self._chip.pages
        bad = self._chip.bad
        room = 0 if block in bad else pages - used
        for step in range(1, blocks + 1):
            other = (block + step) % blocks
            if other not in bad:
                # The ring's own block comes last, and not again if it is being written just now.
                if other in kept or (other == block and used < pages):
                    break
                room += pages
        return room

    def _next_place(self, kept):
        """The next page that can be written, in a block that is taken for it if need be."""
        if self._used == self._chip.pages or self._block in self._chip.bad:
            self._block = self._next_block(kept)
            self._used = 0
        kept[self._block] = True
        self._used += 1
        return self._block * self._chip.pages + self._used - 1

    def _next_block(self, kept):
        """The next block, all of whose pages are empty now."""
        block = self._block_behind(self._block, kept, self._most_wear())
        while block is not None and not self._is_empty(block) and not self._chip.erase(block):
            block = self._block_behind(block, kept, self._most_wear())
        if block is None:
            raise Full(None)
        return block

    def _block_behind(self, block, kept, most):
        """The next block that may be taken; None if there is none."""
        blocks = self._chip.blocks
        bad = self._chip.bad
        for step in range(1, blocks + 1):
            other = (block + step) % blocks
            if other in kept and other not in bad:
                # Others may be erased once more ahead of it, if there were cuts and bad blocks enough for that.
                if self._chip.wear[other] + self._chip.cuts + len(bad) < most:
                    return None
            elif other not in bad:
                return other
        return None

    def _most_wear(self):
        """The wear of the good block that was erased most often."""
        bad = self._chip.bad
        return max([wear for block, wear in enumerate(self._chip.wear) if block not in bad], default=0)

    def _is_empty(self, block):
        """Whether all pages of the block are empty."""
        pages = self._chip.pages
        return all([self._chip.read(block * pages + page) == EMPTY_PAGE for page in range(pages)])
