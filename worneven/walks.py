"""Walks through told trees: what lies beneath a path, under which names, how deep."""

from worneven.errors import BadText, IsFolder, NoPath
from worneven.trees import check_tree
from worneven.words import is_text


def whats_at(tree, path):
    """What the tree tells, by paths; this path must be one of them."""
    check_tree(tree)
    whats = {at: what for at, what in tree}
    if not isinstance(path, str) or path not in whats:
        raise NoPath(path)
    return whats


def names_in(path):
    """The names of which a path is made; of the root folder a single empty one, which comes ahead of all others."""
    return path.split("/")[1:]


def walked(whats, path):
    """The path and all that lie beneath, each folder ahead of what lies in it, names ascending."""
    ahead = "/" if path == "/" else path + "/"
    # Names are compared one by one: as strings, a path with a minus would come ahead of one with a slash there.
    return sorted([at for at in whats if at == path or at.startswith(ahead)], key=names_in)


def walk(tree, path):
    """The path and all that lie beneath it, in the sequence of a walk."""
    return tuple(walked(whats_at(tree, path), path))


def names_of(tree, path):
    """All names of the file with this path, ascending."""
    what = whats_at(tree, path)[path]
    if what[0] == "folder":
        raise IsFolder(path)
    return what[2]


def holding(tree, path, part):
    """The names of the files that the walk comes to in whose texts the part stands."""
    whats = whats_at(tree, path)
    if not is_text(part):
        raise BadText(part)
    return tuple([at for at in walked(whats, path) if whats[at][0] == "file" and part in whats[at][1]])


def deepest(tree):
    """How many names the longest path has."""
    check_tree(tree)
    return max([0 if path == "/" else len(names_in(path)) for path, _ in tree])
