"""Maps of keys and values in sheets, one in a page, that are never written over."""

from worneven.errors import BadChanges, BadKey, BadPlaces, BadSheet, BadText
from worneven.words import are_keyed, is_from, is_integer, is_key, is_page_text, is_value, number_in

MOST_ENTRIES = 4
# Behind all keys.
BEHIND = "~" * 14

# While a map is altered, a row is (least key, part): part is the place of an elder sheet, or a new sheet whose
# children are parts likewise. New sheets get their numbers only when all is settled, so none is made in vain.


def is_child(value):
    """Whether it is what a fork may have beneath a key: a place, or a sheet that is not written yet."""
    if isinstance(value, tuple):
        return len(value) == 2 and value[0] == "new" and is_from(value[1], 0)
    return is_from(value, 0)


def is_sheet(value):
    """Whether it is a leaf or a fork by its form."""
    if not isinstance(value, tuple) or len(value) != 2 or value[0] not in ("leaf", "fork"):
        return False
    kind, entries = value
    least = 1 if kind == "leaf" else 2
    if not isinstance(entries, tuple) or not least <= len(entries) <= MOST_ENTRIES:
        return False
    last = ""
    for entry in entries:
        if not isinstance(entry, tuple) or len(entry) != 2 or not is_key(entry[0]) or entry[0] <= last:
            return False
        if not (is_value(entry[1]) if kind == "leaf" else is_child(entry[1])):
            return False
        last = entry[0]
    return True


def sheet_of(text):
    """The sheet that this page text tells; None if it tells none."""
    first, *words = text.split("\n")
    if first not in ("l", "f") or len(words) % 2 == 1:
        return None
    pairs = list(zip(words[0::2], words[1::2]))
    if first == "l":
        sheet = ("leaf", tuple(pairs))
    else:
        sheet = ("fork", tuple([(key, number_in(word)) for key, word in pairs]))
    return sheet if is_sheet(sheet) else None


def sheet_in(text):
    """The sheet that the page text tells; None if it tells none."""
    if not is_page_text(text):
        raise BadText(text)
    return sheet_of(text)


def written(sheet, places):
    """The page text of the sheet, with the number-th of the places for each child ("new", number)."""
    if not is_sheet(sheet):
        raise BadSheet(sheet)
    if not isinstance(places, tuple) or not all([is_from(place, 0) for place in places]):
        raise BadPlaces(places)
    kind, entries = sheet
    words = [kind[0]]
    for key, what in entries:
        if not isinstance(what, tuple):
            words.extend((key, str(what)))
        elif what[1] < len(places):
            words.extend((key, str(places[what[1]])))
        else:
            raise BadSheet(sheet)
    return "\n".join(words)


def part_at(look, place):
    """The sheet at this place of what surely is a map."""
    return sheet_of(look(place))


def child_for(entries, key):
    """The child of a fork beneath which this key would be; None if it is below all keys."""
    found = None
    for least, child in entries:
        if least <= key:
            found = child
    return found


def map_get(look, root, key):
    """The value of the key in the map; None if it is not there."""
    if not is_key(key):
        raise BadKey(key)
    place = root
    while place is not None:
        kind, entries = part_at(look, place)
        if kind == "leaf":
            return dict(entries).get(key)
        place = child_for(entries, key)
    return None


def entries_from(look, place, low, high):
    """All (key, value) beneath this place with a key from low to high, ascending."""
    kind, entries = part_at(look, place)
    if kind == "leaf":
        return [(key, value) for key, value in entries if low <= key <= high]
    found = []
    ends = [key for key, _ in entries[1:]] + [BEHIND]
    for (key, child), end in zip(entries, ends):
        if key <= high and low < end:
            found.extend(entries_from(look, child, low, high))
    return found


def map_items(look, root, low, high):
    """All (key, value) of the map with a key from low to high, ascending."""
    if not is_key(low):
        raise BadKey(low)
    if not is_key(high):
        raise BadKey(high)
    if root is None:
        return ()
    return tuple(entries_from(look, root, low, high))


def cut_up(kind, entries):
    """The rows of new sheets that hold these entries: 4 in each, in the last two as many as are left."""
    rows = []
    at = 0
    while at < len(entries):
        left = len(entries) - at
        # One entry alone must not be left behind a full sheet.
        many = 3 if left == MOST_ENTRIES + 1 else min(MOST_ENTRIES, left)
        rows.append((entries[at][0], (kind, tuple(entries[at:at + many]))))
        at += many
    return rows


def changed_entries(entries, changes):
    """The entries of a leaf behind the changes, ascending."""
    after = dict(entries)
    for key, value in changes:
        if value is not None:
            after[key] = value
        elif key in after:
            del after[key]
    return sorted(after.items())


def share(entries, at, changes):
    """The changes that fall to a fork's child: from its least key on; to the first one also those below."""
    low = entries[at][0] if at > 0 else ""
    end = entries[at + 1][0] if at + 1 < len(entries) else BEHIND
    return [(key, value) for key, value in changes if low <= key < end]


def changed(look, place, changes):
    """The rows that stand behind the changes for the sheet at this place: its own one if nothing is altered."""
    kind, entries = part_at(look, place)
    after = []
    if kind == "leaf":
        after = changed_entries(entries, changes)
    else:
        for at, (key, child) in enumerate(entries):
            falling = share(entries, at, changes)
            after.extend(changed(look, child, falling) if falling else [(key, child)])
    if tuple(after) == entries:
        return [(entries[0][0], place)]
    return cut_up(kind, joined(look, after) if kind == "fork" else after)


def is_new(row):
    """Whether the row's sheet is a new one."""
    return not is_integer(row[1])


def short_at(rows):
    """At which row there is one entry alone; None if at none. Elder sheets have two at least."""
    for at, row in enumerate(rows):
        if is_new(row) and len(row[1][1]) == 1:
            return at
    return None


def pair_at(rows, at):
    """The first of two neighbouring rows of which this is one; the other one is new, if there is such a one."""
    if at == 0:
        return 0
    if at + 1 < len(rows) and is_new(rows[at + 1]) and not is_new(rows[at - 1]):
        return at
    return at - 1


def joined(look, rows):
    """The rows, but that each one that has one entry alone is joined with a neighbour."""
    rows = list(rows)
    short = short_at(rows)
    while short is not None and len(rows) > 1:
        first = pair_at(rows, short)
        sheets = [row[1] if is_new(row) else part_at(look, row[1]) for row in rows[first:first + 2]]
        kind = sheets[0][0]
        entries = sheets[0][1] + sheets[1][1]
        # What is alone beneath a fork that is alone itself has found a neighbour only now.
        rows[first:first + 2] = cut_up(kind, joined(look, entries) if kind == "fork" else entries)
        short = short_at(rows)
    return rows


def topped(rows):
    """The uppermost part of the map that these rows are; None if there are none."""
    while len(rows) > 1:
        rows = cut_up("fork", rows)
    if not rows:
        return None
    row = rows[0]
    # A fork above one child alone is none: the map is what lies beneath.
    while is_new(row) and row[1][0] == "fork" and len(row[1][1]) == 1:
        row = row[1][1][0]
    return row[1]


def numbered(part, sheets):
    """What a fork has as its child for this part; new sheets are put behind those in the list."""
    if is_integer(part):
        return part
    kind, entries = part
    if kind == "fork":
        entries = tuple([(key, numbered(child, sheets)) for key, child in entries])
    sheets.append((kind, entries))
    return "new", len(sheets) - 1


def told(rows):
    """(sheets, root) of the map that these rows are."""
    sheets = []
    top = topped(rows)
    root = None if top is None else numbered(top, sheets)
    return tuple(sheets), root


def map_with(look, root, changes):
    """(sheets, root) of the map behind the changes."""
    if not are_keyed(changes, True):
        raise BadChanges(changes)
    if root is None:
        return told(cut_up("leaf", changed_entries((), changes)))
    return told(changed(look, root, changes))


def map_anew(look, root):
    """(sheets, root) of the same map in new sheets alone, with 4 entries in all leaves but the last two."""
    if root is None:
        return (), None
    return told(cut_up("leaf", entries_from(look, root, "", BEHIND)))


def map_places(look, root):
    """The places of all sheets of the map, children ahead of their parents."""
    if root is None:
        return ()
    kind, entries = part_at(look, root)
    if kind == "leaf":
        return (root,)
    found = []
    for _, child in entries:
        found.extend(map_places(look, child))
    return (*found, root)
