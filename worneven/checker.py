"""A checker: what lies in an image, page by page, and whether it is a tree of files."""

from worneven.codes import opened
from worneven.errors import BadImage, BadNumber
from worneven.grounds import is_image
from worneven.maps import map_places
from worneven.nodes import tree_of, wrong_keys
from worneven.quotas import over_in
from worneven.roots import map_told, newest_root
from worneven.words import is_between

STATES = ("empty", "torn", "root", "living", "old")


def opened_pages(image, pages):
    """What opened tells of each page of the image of a chip with so many pages a block."""
    if not is_between(pages, 4, 16):
        raise BadNumber(pages)
    if not is_image(image, pages) or not 4 * pages <= len(image) <= 64 * pages:
        raise BadImage(image)
    return [opened(cells) for cells in image]


def texts_in(told):
    """The texts of all pages, by places; None for those that are neither whole nor mended."""
    return [page[1] if page[0] in ("whole", "mended") else None for page in told]


def living_in(texts):
    """The places of all pages that are the newest root or a sheet of its map, as a dict with the words for them."""
    newest = newest_root(texts)
    if newest is None:
        return {}
    _, page, root = newest

    def look(place):
        return texts[place]

    words = {}
    if map_told(texts, root) is not None:
        words = {place: "living" for place in map_places(look, root)}
    words[page] = "root"
    return words


def states_of(told):
    """The word for each page of which opened told this."""
    living = living_in(texts_in(told))
    return tuple([page[0] if page[0] in ("empty", "torn") else living.get(at, "old") for at, page in enumerate(told)])


def states(image, pages):
    """For each place: empty, torn, root, living or old."""
    return states_of(opened_pages(image, pages))


def fallen_in(told):
    """(place, cell) of all pages of which opened told that they are mended."""
    return tuple([(at, page[2]) for at, page in enumerate(told) if page[0] == "mended"])


def fallen(image, pages):
    """(place, cell) of all cells that fell by themselves, ascending."""
    return fallen_in(opened_pages(image, pages))


def judged(image, pages):
    """Whether the image is right, with its tree; or what is wrong first, and where; or that nothing lies there."""
    texts = texts_in(opened_pages(image, pages))
    found = [at for at, text in enumerate(texts) if text is not None]
    if not found:
        return ("none",)
    newest = newest_root(texts)
    if newest is None:
        return "wrong", found[0], "root"
    _, page, root = newest
    items = map_told(texts, root)
    if items is None:
        return "wrong", page, "map"
    if not items:
        return "right", (("/", ("folder", None)),)
    if wrong_keys(items):
        return "wrong", page, "tree"
    tree = tree_of(items)
    return ("wrong", page, "tree") if over_in(tree) else ("right", tree)


def wear_of_good(chip):
    """The least and the greatest wear of the blocks that are not bad; both 0 if all are."""
    wear = [worn for block, worn in enumerate(chip.wear) if block not in chip.bad]
    return min(wear, default=0), max(wear, default=0)


def health(chip):
    """How many pages of the chip are what, how many cells fell, how many blocks are bad, and how they wear."""
    told = [opened(cells) for cells in chip.image()]
    words = states_of(told)
    rows = [(word, words.count(word)) for word in STATES]
    least, most = wear_of_good(chip)
    rows.extend((("fallen", len(fallen_in(told))), ("bad", len(chip.bad)), ("least", least), ("most", most)))
    return tuple(rows)
