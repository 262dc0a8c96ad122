"""Quotas: what is used of the folders of a told tree, and what room is left in them."""

from worneven.errors import NotFolder
from worneven.trees import beginnings, check_tree
from worneven.walks import whats_at


def folders_above(names):
    """The paths of all folders beneath which a file with these names lies, each once."""
    above = {}
    for name in names:
        for folder in beginnings(name)[:-1]:
            above[folder] = True
    return list(above)


def uses_in(tree):
    """By the paths of all folders of what surely is a told tree, how many signs are used of each."""
    uses = {path: 0 for path, what in tree if what[0] == "folder"}
    for path, what in tree:
        # A file counts once, however many of its names lie beneath a folder.
        if what[0] == "file" and path == what[2][0]:
            for folder in folders_above(what[2]):
                uses[folder] += len(what[1])
    return uses


def over_in(tree):
    """(path, quota, used) of all folders of what surely is a told tree that use more than they may, by paths."""
    uses = uses_in(tree)
    limited = [(path, what[1]) for path, what in tree if what[0] == "folder" and what[1] is not None]
    return tuple([(path, quota, uses[path]) for path, quota in limited if quota < uses[path]])


def check_folder(tree, path):
    """Raises BadTree, NoPath or NotFolder unless the path is that of a folder of a told tree."""
    if whats_at(tree, path)[path][0] == "file":
        raise NotFolder(path)


def used(tree, path):
    """How many signs the files have that lie beneath the folder."""
    check_folder(tree, path)
    return uses_in(tree)[path]


def over(tree):
    """(path, quota, used) of all folders that use more than their quotas, ascending."""
    check_tree(tree)
    return over_in(tree)


def room_in(tree, path):
    """How many signs more the files beneath the folder may have; None if no quota says so."""
    check_folder(tree, path)
    whats = {at: what for at, what in tree}
    uses = uses_in(tree)
    limited = [folder for folder in beginnings(path) if whats[folder][1] is not None]
    return min([whats[folder][1] - uses[folder] for folder in limited], default=None)
