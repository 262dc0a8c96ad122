"""Told trees: rows (path, what), and which of them can stand."""

from worneven.errors import BadTree
from worneven.words import is_between, is_path, is_text

MOST_NODES = 9999
MOST_NAMES = 99
MOST_QUOTA = 999999


def folder_of(path):
    """The path without its last name."""
    return path.rpartition("/")[0] or "/"


def name_of(path):
    """The last name of a path."""
    return path.rpartition("/")[2]


def path_in(folder, name):
    """The path of this name in the folder with that path."""
    return "/" + name if folder == "/" else folder + "/" + name


def beginnings(path):
    """The path and all in which it lies, the root folder first."""
    if path == "/":
        return ["/"]
    return ["/"] + [path[:at] for at in range(1, len(path)) if path[at] == "/"] + [path]


def is_quota(value):
    """Whether it is a folder's quota, or none."""
    return value is None or is_between(value, 0, MOST_QUOTA)


def are_names(value):
    """Whether it is an ascending tuple of 1 to 99 unlike paths."""
    if not isinstance(value, tuple) or not 1 <= len(value) <= MOST_NAMES:
        return False
    if not all([is_path(path) for path in value]):
        return False
    return all([path < after for path, after in zip(value, value[1:])])


def is_folder(what):
    """Whether it is what a row tells of a folder."""
    return isinstance(what, tuple) and len(what) == 2 and what[0] == "folder" and is_quota(what[1])


def is_file(what):
    """Whether it is what a row tells of a file."""
    if not isinstance(what, tuple) or len(what) != 3 or what[0] != "file":
        return False
    return is_text(what[1]) and are_names(what[2])


def is_row(row):
    """Whether it is such a (path, what) by its form."""
    if not isinstance(row, tuple) or len(row) != 2 or not is_path(row[0]):
        return False
    return is_folder(row[1]) or is_file(row[1])


def told_at(tree):
    """By paths, all that any rows tell there, be they wrong or not."""
    told = {}
    for row in tree:
        if isinstance(row, tuple) and len(row) == 2 and isinstance(row[0], str):
            told.setdefault(row[0], []).append(row[1])
    return told


def has_its_names(path, what, told):
    """Whether the file's path is one of its names, and each of them has a row with just the same."""
    return path in what[2] and all([what in told.get(name, ()) for name in what[2]])


def check_tree(tree):
    """Raises BadTree with the number of the first row that cannot stand, if there is one."""
    if not isinstance(tree, tuple):
        raise BadTree(None)
    if not tree:
        raise BadTree(0)
    told = told_at(tree)
    folders = {}
    nodes = 0
    last = ""
    for number, row in enumerate(tree):
        if not is_row(row):
            raise BadTree(number)
        path, what = row
        if number == 0 and not (path == "/" and is_folder(what)):
            raise BadTree(0)
        if path <= last or (number > 0 and folder_of(path) not in folders):
            raise BadTree(number)
        if is_file(what) and not has_its_names(path, what, told):
            raise BadTree(number)
        if is_folder(what):
            folders[path] = True
        # A file is a node of its own where its first name stands only.
        nodes += 1 if is_folder(what) or path == what[2][0] else 0
        if nodes > MOST_NODES:
            raise BadTree(number)
        last = path
