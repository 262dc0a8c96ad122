"""A plain tree of files, of dicts within dicts, on which the same deeds are done; and drawn deeds for it."""

import copy

from plain_nodes import is_path

LETTERS = "".join(chr(number) for number in range(32, 127) if number != 37)


class Refused(Exception):
    """What an error of the document would be: its name and value."""

    def __init__(self, name, value):
        super().__init__(name, value)
        self.name = name
        self.value = value


def is_integer(value, low, high):
    return type(value) is int and low <= value <= high


def is_text(value):
    return type(value) is str and len(value) <= 600 and set(value) <= set(LETTERS)


def split(path):
    """The folder of a path, and its last name."""
    folder, _, name = path.rpartition("/")
    return folder or "/", name


class PlainFiles:
    """Folders are dicts with "names" and "quota", files dicts with "text"; two names of a file hold the same dict."""

    def __init__(self):
        self.root = {"names": {}, "quota": None}

    def do(self, name, *values):
        """Does the deed, or refuses it and changes nothing."""
        self.do_all(((name, *values),))

    def do_all(self, deeds):
        twin = PlainFiles()
        twin.root = copy.deepcopy(self.root)
        for name, *values in deeds:
            getattr(twin, name)(*values)
            # Only what makes something longer or more, or a quota, can break one.
            if name not in ("make_folder", "cut_to", "remove"):
                twin.look_at_quotas()
        self.root = twin.root

    def walk(self, path):
        if not is_path(path):
            raise Refused("BadPath", path)
        node, at = self.root, ""
        for name in path[1:].split("/") if path != "/" else []:
            if "text" in node:
                raise Refused("NotFolder", at)
            at += "/" + name
            if name not in node["names"]:
                raise Refused("NoPath", at)
            node = node["names"][name]
        return node

    def folder(self, path):
        node = self.walk(path)
        if "text" in node:
            raise Refused("NotFolder", path)
        return node

    def file(self, path):
        node = self.walk(path)
        if "names" in node:
            raise Refused("IsFolder", path)
        return node

    def free(self, path):
        if not is_path(path):
            raise Refused("BadPath", path)
        if path == "/":
            raise Refused("There", "/")
        folder, name = split(path)
        node = self.folder(folder)
        if name in node["names"]:
            raise Refused("There", path)
        return node["names"], name

    def is_there(self, path):
        try:
            self.walk(path)
        except Refused:
            return False
        return True

    def make_folder(self, path):
        names, name = self.free(path)
        names[name] = {"names": {}, "quota": None}

    def put(self, path, text):
        if not is_path(path):
            raise Refused("BadPath", path)
        if not is_text(text):
            raise Refused("BadText", text)
        if self.is_there(path):
            self.file(path)["text"] = text
        else:
            names, name = self.free(path)
            names[name] = {"text": text}

    def write(self, path, at, text):
        self.walk(path)
        if not is_text(text):
            raise Refused("BadText", text)
        file = self.file(path)
        held = list(file["text"])
        if not is_integer(at, 0, len(held)):
            raise Refused("BadSpan", at)
        held[at:at + len(text)] = list(text)
        if len(held) > 600:
            raise Refused("BadSpan", at)
        file["text"] = "".join(held)

    def cut_to(self, path, size):
        file = self.file(path)
        if not is_integer(size, 0, len(file["text"])):
            raise Refused("BadSpan", size)
        file["text"] = file["text"][:size]

    def add_name(self, path, other):
        file = self.file(path)
        names, name = self.free(other)
        if len(self.names_of(file)) == 99:
            raise Refused("Full", 99)
        names[name] = file

    def remove(self, path):
        node = self.walk(path)
        if path == "/":
            raise Refused("Within", "/")
        if node.get("names"):
            raise Refused("NotEmptyFolder", path)
        folder, name = split(path)
        del self.walk(folder)["names"][name]

    def move(self, path, other):
        node = self.walk(path)
        if path == "/":
            raise Refused("Within", "/")
        if not is_path(other):
            raise Refused("BadPath", other)
        if path == other:
            return
        if "names" in node and other[:len(path) + 1] == path + "/":
            raise Refused("Within", other)
        self.folder(split(other)[0])
        if self.is_there(other):
            there = self.walk(other)
            if "names" in there and "text" in node:
                raise Refused("IsFolder", other)
            if "text" in there and "names" in node:
                raise Refused("NotFolder", other)
            if there.get("names"):
                raise Refused("NotEmptyFolder", other)
        folder, name = split(other)
        self.walk(folder)["names"][name] = node
        folder, name = split(path)
        del self.walk(folder)["names"][name]

    def quota(self, path, number):
        folder = self.folder(path)
        if number is not None and not is_integer(number, 0, 999999):
            raise Refused("BadQuota", number)
        folder["quota"] = number

    def rows(self):
        """(path, node) of all that is there, ascending."""
        found, ahead = [], [("/", self.root)]
        while ahead:
            path, node = ahead.pop()
            found.append((path, node))
            for name, below in node.get("names", {}).items():
                ahead.append((path.rstrip("/") + "/" + name, below))
        return sorted(found, key=lambda row: row[0])

    def names_of(self, file):
        return tuple(path for path, node in self.rows() if node is file)

    def used(self, path):
        files = {}
        for at, node in self.rows():
            if "text" in node and at.startswith(path.rstrip("/") + "/"):
                files[id(node)] = len(node["text"])
        return sum(files.values())

    def look_at_quotas(self):
        for path, node in self.rows():
            if node.get("quota") is not None and self.used(path) > node["quota"]:
                raise Refused("OverQuota", path)

    def read(self, path):
        return self.file(path)["text"]

    def names(self, path):
        return tuple(sorted(self.folder(path)["names"]))

    def look(self, path):
        node = self.walk(path)
        if "text" in node:
            return "file", len(node["text"]), self.names_of(node)
        return "folder", len(node["names"]), node["quota"], self.used(path)

    def tree(self):
        told = []
        for path, node in self.rows():
            told.append((path, ("file", node["text"], self.names_of(node)) if "text" in node else ("folder", node["quota"])))
        return tuple(told)


NAMES = ("a", "b", "c", "a-b", "a.b", "...", "x" * 8)
WRONG_PATHS = ("", "a", "//", "/a/", "/.", "/a/..", "/A", "/ a", "/" + "x" * 9, "/a//b", None, 0, ("/",), ["/a"])


def some_path(chance, paths):
    """A path that is there, or lies beneath one that is, or beneath one that is not; now and then one that is none."""
    draw = chance.random()
    if draw < 0.45:
        return chance.choice(paths)
    if draw < 0.9:
        return chance.choice(paths).rstrip("/") + "/" + chance.choice(NAMES)
    if draw < 0.97:
        return "/" + "/".join(chance.choices(NAMES, k=chance.randint(1, 3)))
    return chance.choice(WRONG_PATHS)


def some_text(chance, most=60):
    size = chance.choice((0, 1, 3, 11, 12, 13, 24, 25, most, chance.randint(0, most)))
    return "".join(chance.choices(LETTERS, k=min(size, most)))


def some_deed(chance, plain):
    """A deed of any kind, with values of which most are right where it stands."""
    rows = plain.rows()
    paths = [path for path, _ in rows]
    files = [path for path, node in rows if "text" in node] or ["/a"]
    name = chance.choice(("make_folder", "put", "put", "put", "write", "cut_to", "add_name", "remove", "move", "quota"))
    path = some_path(chance, paths)
    if name in ("write", "cut_to", "add_name") and chance.random() < 0.8:
        path = chance.choice(files)
    if name in ("add_name", "move"):
        return name, path, some_path(chance, paths)
    if name == "put":
        return name, path, some_text(chance) if chance.random() < 0.97 else chance.choice(("\n", "%", "y" * 601, None, 5))
    number = chance.choice((0, 0, 1, 5, 12, 30, 100, -1, True, None, "2", chance.randint(0, 60)))
    if name == "write":
        return name, path, number, some_text(chance)
    if name == "cut_to":
        return name, path, number
    if name == "quota":
        return name, path, chance.choice((None, None, 0, 40, 100, 200, 999999, 1000000, number))
    return name, path
