"""What each deed does to a tree in hand, and when it is refused. A draft whose deed was refused is of no use."""

from worneven.errors import (
    BadPath, BadQuota, BadSpan, BadText, Full, IsFolder, NoPath, NotEmptyFolder, NotFolder, OverQuota, There, Within,
)
from worneven.quotas import over_in
from worneven.trees import MOST_NAMES, beginnings, folder_of, is_quota
from worneven.words import MOST_TEXT, is_between, is_path, is_text


def check_walk(draft, path):
    """Raises BadPath, NoPath or NotFolder unless the path can be walked."""
    if not is_path(path):
        raise BadPath(path)
    for beginning in beginnings(path):
        if not draft.has(beginning):
            raise NoPath(beginning)
        # Nothing lies beneath a file, so the next beginning is not there.
        if beginning != path and not draft.is_folder(beginning):
            raise NotFolder(beginning)


def check_file(draft, path):
    """Raises IsFolder if the path, which is there, names a folder."""
    if draft.is_folder(path):
        raise IsFolder(path)


def check_folder(draft, path):
    """Raises NotFolder if the path, which is there, names a file."""
    if not draft.is_folder(path):
        raise NotFolder(path)


def check_free(draft, path):
    """Raises an error unless the path is free for a name; the root folder's never is, as it is there."""
    if not is_path(path):
        raise BadPath(path)
    check_walk(draft, folder_of(path))
    check_folder(draft, folder_of(path))
    if draft.has(path):
        raise There(path)


def check_text(text):
    """Raises BadText unless it is the text of a file."""
    if not is_text(text):
        raise BadText(text)


def check_without_names(draft, path):
    """Raises NotEmptyFolder if the path, which is there, names a folder that holds names."""
    if draft.is_folder(path) and draft.names_within(path):
        raise NotEmptyFolder(path)


def check_quotas(draft):
    """Raises OverQuota with the first folder that uses more than it may."""
    broken = over_in(draft.tree())
    if broken:
        raise OverQuota(broken[0][0])


def do_make_folder(draft, path):
    """A folder without names."""
    check_free(draft, path)
    draft.make(path, ("folder", None))


def do_put(draft, path, text):
    """The text of a file, which is made if the path is not there."""
    if not is_path(path):
        raise BadPath(path)
    check_text(text)
    if draft.has(path):
        check_file(draft, path)
        draft.alter(path, ("file", text))
    else:
        check_free(draft, path)
        draft.make(path, ("file", text))
    check_quotas(draft)


def do_write(draft, path, at, text):
    """The text stands in the file from there on, over what was there."""
    check_walk(draft, path)
    check_text(text)
    check_file(draft, path)
    held = draft.what(path)[1]
    if not is_between(at, 0, len(held)) or at + len(text) > MOST_TEXT:
        raise BadSpan(at)
    draft.alter(path, ("file", held[:at] + text + held[at + len(text):]))
    check_quotas(draft)


def do_cut_to(draft, path, size):
    """The first signs of the file, so many of them."""
    check_walk(draft, path)
    check_file(draft, path)
    held = draft.what(path)[1]
    if not is_between(size, 0, len(held)):
        raise BadSpan(size)
    draft.alter(path, ("file", held[:size]))


def do_add_name(draft, path, other):
    """The other path names the same file, too."""
    check_walk(draft, path)
    check_file(draft, path)
    check_free(draft, other)
    if len(draft.names_of(path)) == MOST_NAMES:
        raise Full(MOST_NAMES)
    draft.link(path, other)
    check_quotas(draft)


def do_remove(draft, path):
    """The name is gone; a file goes with its last name."""
    check_walk(draft, path)
    if path == "/":
        raise Within(path)
    check_without_names(draft, path)
    draft.unlink(path)


def check_replaced(draft, path, other):
    """Raises an error unless what the other path, which is there, names may be replaced by what the path names."""
    if draft.is_folder(path):
        check_folder(draft, other)
    else:
        check_file(draft, other)
    check_without_names(draft, other)


def do_move(draft, path, other):
    """The other path names what the path named, and the path is gone."""
    check_walk(draft, path)
    if path == "/":
        raise Within(path)
    if not is_path(other):
        raise BadPath(other)
    if other == path:
        return
    if draft.is_folder(path) and other.startswith(path + "/"):
        raise Within(other)
    check_walk(draft, folder_of(other))
    check_folder(draft, folder_of(other))
    if draft.has(other):
        check_replaced(draft, path, other)
        draft.unlink(other)
    draft.rename(path, other)
    check_quotas(draft)


def do_quota(draft, path, number):
    """The quota of the folder; None: none."""
    check_walk(draft, path)
    check_folder(draft, path)
    if not is_quota(number):
        raise BadQuota(number)
    draft.alter(path, ("folder", number))
    check_quotas(draft)


# By its name, each deed, and how many values it is told beside the draft.
DEEDS = {
    "make_folder": do_make_folder, "put": do_put, "write": do_write, "cut_to": do_cut_to, "add_name": do_add_name,
    "remove": do_remove, "move": do_move, "quota": do_quota,
}
VALUES = {
    "make_folder": 1, "put": 2, "write": 3, "cut_to": 2, "add_name": 2, "remove": 1, "move": 2, "quota": 2,
}
