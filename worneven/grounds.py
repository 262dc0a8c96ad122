"""Grounds: one map on a chip, kept by a ring of blocks and newest roots."""

from worneven.codes import text_told
from worneven.errors import BadChanges, BadImage, BadNumber, Full, NoGround
from worneven.maps import map_anew, map_get, map_items, map_places, map_with, written
from worneven.rings import Ring
from worneven.roots import map_told, newest_root, root_text
from worneven.words import GREATEST_KEY, LEAST_KEY, are_keyed, is_between, is_from, is_page


def told_room(entries, good, pages):
    """Whether commits of maps of so many entries are let in on so many good blocks of so many pages."""
    if not is_from(entries, 0):
        raise BadNumber(entries)
    if not is_from(good, 0):
        raise BadNumber(good)
    if not is_from(pages, 1):
        raise BadNumber(pages)
    return 3 * (entries + 1) + 4 * pages <= good * pages


def is_image(value, pages):
    """Whether it is a tuple of the pages of one or more blocks of so many pages."""
    if not isinstance(value, tuple) or len(value) == 0 or len(value) % pages > 0:
        return False
    return all([is_page(cells) for cells in value])


def meaning(image, pages):
    """What the image means: the number and the items of its map, or that it is empty, or means none."""
    if not is_between(pages, 4, 16):
        raise BadNumber(pages)
    if not is_image(image, pages):
        raise BadImage(image)
    texts = [text_told(cells) for cells in image]
    if all([text is None for text in texts]):
        return ("empty",)
    newest = newest_root(texts)
    found = None if newest is None else map_told(texts, newest[2])
    return ("none",) if found is None else ("map", newest[0], found)


def sheets_anew(entries):
    """How many sheets a map of so many entries has when it is made anew."""
    row = (entries + 3) // 4
    sheets = row
    while row > 1:
        row = (row + 3) // 4
        sheets += row
    return sheets


class Ground:
    """The ground that lies on a chip: a map, of which each commit is done wholly or not at all."""

    def __init__(self, chip):
        self._chip = chip
        self._ring = Ring(chip)
        self._number = 0
        self._page = None
        self._root = None
        self._entries = 0
        self._living = ()
        texts = [self._look(place) for place in range(chip.blocks * chip.pages)]
        if all([text is None for text in texts]):
            self._write((), None, 0)
        else:
            self._stand_on(texts)

    @property
    def number(self):
        """The newest root's number."""
        return self._number

    @property
    def living(self):
        """The places of all living pages, ascending."""
        return self._living

    @property
    def chip(self):
        """The chip on which the ground lies."""
        return self._chip

    def get(self, key):
        """The value of the key; None if it is not there."""
        return map_get(self._look, self._root, key)

    def items(self, low, high):
        """All (key, value) with a key from low to high, ascending."""
        return map_items(self._look, self._root, low, high)

    def held(self):
        """All (key, value) of the map, ascending."""
        return map_items(self._look, self._root, LEAST_KEY, GREATEST_KEY)

    def commit(self, changes):
        """Changes the map, wholly or not at all."""
        if not are_keyed(changes, True):
            raise BadChanges(changes)
        bad = len(self._chip.bad)
        entries = self._entries_behind(changes)
        spare = self._spare(changes, entries)
        if spare < max(self._safe_spare(self._entries), self._safe_spare(entries)):
            gathered = self._spare_behind_gathering(changes, entries)
            if max(spare, gathered) < self._least_spare(entries):
                raise Full(None)
            if gathered > spare:
                self._write_anew()
                if self._spare(changes, entries) < self._least_spare(entries):
                    raise Full(None)
        sheets, root = map_with(self._look, self._root, changes)
        self._write(sheets, root, entries)
        if len(self._chip.bad) > bad:
            self._gather_if_near()

    def gather(self):
        """Writes all sheets anew, and one new root page."""
        if self._ring.ahead(sheets_anew(self._entries) + 1, self._kept()) is None:
            raise Full(None)
        self._write_anew()

    def room(self):
        """How many pages the ring can write until it comes to a good block in which a living page lies."""
        return self._ring.room(self._kept())

    def _look(self, place):
        """The text of the page at this place; None if it is neither whole nor mended."""
        return self._chip.text(place)

    def _stand_on(self, texts):
        """The map is the one to which the newest root leads."""
        newest = newest_root(texts)
        if newest is None:
            raise NoGround(None)
        number, page, root = newest
        found = map_told(texts, root)
        if found is None:
            raise NoGround(None)
        self._stand(number, page, root, len(found))
        self._go_back()

    def _stand(self, number, page, root, entries):
        """This root is the newest one now."""
        self._number = number
        self._page = page
        self._root = root
        self._entries = entries
        self._living = tuple(sorted([page, *map_places(self._look, root)]))

    def _kept(self):
        """The blocks in which living pages lie, by their numbers."""
        return self._ring.blocks_of(self._living)

    def _write(self, sheets, root, entries):
        """Writes new sheets and a new root for the map of so many entries."""
        kept = self._kept()
        places = []
        try:
            for sheet in sheets:
                places.append(self._ring.write(written(sheet, tuple(places)), kept))
            top = places[root[1]] if isinstance(root, tuple) else root
            page = self._ring.write(root_text(self._number + 1, top), kept)
        except Full:
            self._go_back()
            raise
        self._stand(self._number + 1, page, top, entries)

    def _go_back(self):
        """The ring goes on as it would if the chip were opened anew."""
        self._ring = Ring(self._chip)
        if self._page is not None:
            self._ring.go_behind(self._page)

    def _write_anew(self):
        """Gathers: behind it the ring has its living pages all in a row."""
        sheets, root = map_anew(self._look, self._root)
        self._write(sheets, root, self._entries)

    def _gather_if_near(self):
        """Gathers if the ring has come too near to a living page, and would be further from it then."""
        need = sheets_anew(self._entries) + 1
        room = self._ring.room(self._kept())
        if room >= need + self._safe_spare(self._entries):
            return
        places = self._ring.ahead(need, self._kept())
        if places is None or self._ring.room_behind(places[-1], self._ring.blocks_of(places)) <= room:
            return
        try:
            self._write_anew()
        except Full:
            # The commit is done all the same, and the map stands as it was written.
            pass

    def _entries_behind(self, changes):
        """How many entries the map is to have behind the changes."""
        entries = self._entries
        for key, value in changes:
            if (self.get(key) is None) != (value is None):
                entries += 1 if value is not None else -1
        return entries

    def _is_told(self, entries):
        """Whether room is told for a map of so many entries."""
        return told_room(entries, self._chip.blocks - len(self._chip.bad), self._chip.pages)

    def _safe_spare(self, entries):
        """How many pages beyond those with which a map of so many entries can be gathered are enough."""
        # Where room is told, it must be there whatever goes bad: two blocks at once, or one, and by cuts what is left
        # of another. Elsewhere that much may be more than the chip has, but cuts alone should do no harm.
        return 2 * self._chip.pages if self._is_told(entries) else self._chip.pages

    def _least_spare(self, entries):
        """How many pages beyond those a commit must leave at least, lest it be refused."""
        # What makes the map no greater is let in to the last, so that a full chip can be emptied.
        return self._safe_spare(entries) if self._is_told(entries) or entries > self._entries else 0

    def _spare(self, changes, entries):
        """How many pages a commit of the changes would leave beyond those with which the map can be gathered."""
        sheets, _ = map_with(self._look, self._root, changes)
        return self._ring.room(self._kept()) - (len(sheets) + 1) - (sheets_anew(entries) + 1)

    def _spare_behind_gathering(self, changes, entries):
        """The same, if the map is gathered first; -1 if it can't be."""
        sheets, root = map_anew(self._look, self._root)
        places = self._ring.ahead(len(sheets) + 1, self._kept())
        if places is None:
            return -1
        texts = {place: written(sheet, tuple(places)) for place, sheet in zip(places, sheets)}
        top = None if root is None else places[root[1]]

        def look(place):
            return texts[place]

        made, _ = map_with(look, top, changes)
        room = self._ring.room_behind(places[-1], self._ring.blocks_of(places))
        return room - (len(made) + 1) - (sheets_anew(entries) + 1)
