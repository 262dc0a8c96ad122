"""Root pages, the newest of them, and the map to which it leads."""

from worneven.maps import sheet_of
from worneven.words import number_in


def root_text(number, place):
    """The page text of a root page; place is None for a map without keys."""
    return "\n".join(["root", str(number), "-" if place is None else str(place)])


def root_in(text):
    """(number, place) of the root page with this text; None if it is none."""
    words = text.split("\n")
    if len(words) != 3 or words[0] != "root":
        return None
    number = number_in(words[1])
    place = None if words[2] == "-" else number_in(words[2])
    if number is None or number == 0 or (place is None and words[2] != "-"):
        return None
    return number, place


def newest_root(texts):
    """(number, page, place) of the newest of all root pages; None if there is none."""
    newest = None
    for page, text in enumerate(texts):
        root = None if text is None else root_in(text)
        if root is not None and (newest is None or root[0] > newest[0]):
            newest = (root[0], page, root[1])
    return newest


def sheets_at(texts, places):
    """The sheets at these places, in their sequence; None unless a sheet lies at each."""
    sheets = []
    for place in places:
        text = texts[place] if place < len(texts) else None
        sheet = None if text is None else sheet_of(text)
        if sheet is None:
            return None
        sheets.append(sheet)
    return sheets


def is_row_of_sheets(sheets, least):
    """Whether these can lie side by side below forks that tell their least keys."""
    if not all([kind == sheets[0][0] and len(entries) > 1 for kind, entries in sheets]):
        return False
    if [entries[0][0] for _, entries in sheets] != least:
        return False
    keys = [key for _, entries in sheets for key, _ in entries]
    return all([key < after for key, after in zip(keys, keys[1:])])


def map_told(texts, root):
    """All (key, value) of the map with its uppermost sheet there, ascending; None if that is no map."""
    if root is None:
        return ()
    sheets = sheets_at(texts, [root])
    reached = 1
    while sheets is not None and sheets[0][0] == "fork":
        below = [entry for _, entries in sheets for entry in entries]
        # Without a loop no sheet is reached twice, so there are no more of them than pages.
        reached += len(below)
        sheets = sheets_at(texts, [place for _, place in below]) if reached <= len(texts) else None
        if sheets is not None and not is_row_of_sheets(sheets, [key for key, _ in below]):
            return None
    if sheets is None:
        return None
    return tuple([entry for _, entries in sheets for entry in entries])
