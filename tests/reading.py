"""An own reading of cells, root pages and maps, as the document's words tell them: what lies in an image."""

import functools
import re

from sealing import SIGNS, plain_sealed

EMPTY = "f" * 256
KEY = r"[!-$&-~]{1,13}"
VALUE = r"[ -$&-~]{1,13}"
PLACE = r"(?:0|[1-9][0-9]*)"
LEAF = re.compile(rf"l(?:\n{KEY}\n{VALUE}){{1,4}}\Z")
FORK = re.compile(rf"f(?:\n{KEY}\n{PLACE}){{2,4}}\Z")
ROOT = re.compile(rf"root\n([1-9][0-9]*)\n({PLACE}|-)\Z")


class NoMap(Exception):
    """What was reached is no map."""


def text_in(cells):
    """The text in the cells up to the first ff, whether they are a sealed page or not; None if it is none."""
    letters = []
    for at in range(0, 226, 2):
        pair = cells[at:at + 2]
        if pair == "ff":
            break
        number = int(pair, 16)
        if number != 10 and (not 32 <= number <= 126 or number == 37):
            return None
        letters.append(chr(number))
    return "".join(letters)


def sealed_texts_near(cells):
    """All texts whose sealed pages could have become these cells when one cell fell."""
    near = [cells]
    # One cell that fell by so much changed the first sum by just that.
    by = sum(15 - int(cell, 16) for cell in cells[:226]) - int(cells[226:229], 16)
    for at in range(226):
        worth = int(cells[at], 16) + by
        if by > 0 and worth <= 15:
            near.append(cells[:at] + SIGNS[worth] + cells[at + 1:])
    return {text_in(page) for page in near} - {None}


@functools.lru_cache(maxsize=None)
def plain_text(cells):
    """The text of a page that is whole or mended; None for all others."""
    if cells == EMPTY:
        return None
    text = text_in(cells)
    if text is not None and plain_sealed(text) == cells:
        return text
    for text in sorted(sealed_texts_near(cells)):
        page = plain_sealed(text)
        unlike = [at for at in range(256) if cells[at] != page[at]]
        if len(unlike) == 1 and cells[unlike[0]] < page[unlike[0]]:
            return text
    return None


def plain_sheet(text):
    """(kind, entries) of a sheet's page text; NoMap if it is none."""
    words = text.split("\n")
    pairs = list(zip(words[1::2], words[2::2]))
    if LEAF.match(text):
        kind, entries = "leaf", pairs
    elif FORK.match(text):
        kind, entries = "fork", [(key, int(place)) for key, place in pairs]
    else:
        raise NoMap(text)
    keys = [key for key, _ in entries]
    if len(text) > 113 or sorted(set(keys)) != keys:
        raise NoMap(text)
    return kind, entries


def plain_map(look, root, told=None):
    """The items of the map at root; NoMap if it is none. The list told, if there is one, gets its places."""
    told = [] if told is None else told
    if root is None:
        return []
    if not isinstance(root, int) or look(root) is None:
        raise NoMap(root)
    if root in told:
        raise NoMap("a loop")
    _, items = beneath(look, root, told, True)
    keys = [key for key, _ in items]
    if sorted(set(keys)) != keys:
        raise NoMap("keys")
    return items


def beneath(look, place, told, is_uppermost):
    """How many forks deep the leaves are, and the items, beneath one place."""
    text = look(place)
    if text is None or place in told:
        raise NoMap(place)
    told.append(place)
    kind, entries = plain_sheet(text)
    if kind == "leaf":
        if len(entries) == 1 and not is_uppermost:
            raise NoMap("one entry alone")
        return 0, entries
    depths, items = set(), []
    ends = [key for key, _ in entries[1:]] + ["~" * 14]
    for (key, child), end in zip(entries, ends):
        depth, below = beneath(look, child, told, False)
        if below[0][0] != key or [row for row in below if not key <= row[0] < end]:
            raise NoMap("keys")
        depths.add(depth)
        items += below
    if len(depths) != 1:
        raise NoMap("leaves unequally deep")
    return depths.pop() + 1, items


def plain_newest(image):
    """(number, page, root) of the newest root of an image; None if there is none."""
    found = []
    for page, cells in enumerate(image):
        told = ROOT.match(plain_text(cells) or "")
        if told:
            root = None if told.group(2) == "-" else int(told.group(2))
            found.append((-int(told.group(1)), page, root))
    if not found:
        return None
    number, page, root = min(found, key=lambda row: row[:2])
    return -number, page, root


def look_in(image):
    def look(place):
        return plain_text(image[place]) if place < len(image) else None
    return look


def plain_meaning(image):
    """What meaning is to tell of an image."""
    if not [cells for cells in image if plain_text(cells) is not None]:
        return ("empty",)
    newest = plain_newest(image)
    try:
        if newest is None:
            raise NoMap("no root")
        return "map", newest[0], tuple(plain_map(look_in(image), newest[2]))
    except NoMap:
        return ("none",)


def plain_living(image):
    """The places of all living pages of an image that means a map, ascending."""
    number, page, root = plain_newest(image)
    told = [page]
    plain_map(look_in(image), root, told)
    return tuple(sorted(told))


def plain_room(chip, living):
    """How many pages the ring can write, of a ground that is opened: in blocks that are not bad, up to a living one."""
    image, pages = chip.image(), chip.pages
    block, at = divmod(plain_newest(image)[1], pages)
    kept = {place // pages for place in living}
    while at < pages and set(image[block * pages + at:(block + 1) * pages]) != {EMPTY}:
        at += 1
    room = 0 if block in chip.bad else pages - at
    others = [(block + step) % chip.blocks for step in range(1, chip.blocks)]
    for other in others:
        if other in chip.bad:
            continue
        if other in kept:
            return room
        room += pages
    return room
