"""What items are wrong, and which row of a tree cannot stand: the document's words, one after the other."""

import re

NODE = re.compile(r"n(\d{4})\Z", re.ASCII)
NAME = re.compile(r"e(\d{4})([a-z0-9.-]{1,8})\Z", re.ASCII)
PART = re.compile(r"t(\d{4})([0-4]\d)\Z", re.ASCII)
INTEGER = r"(0|[1-9]\d*)"
FOLDER = re.compile(rf"d(?: {INTEGER})?\Z", re.ASCII)
FILE = re.compile(rf"f {INTEGER} {INTEGER}\Z", re.ASCII)
PATH = re.compile(r"/(?:[a-z0-9.-]{1,8}(?:/[a-z0-9.-]{1,8})*)?\Z")


def node_of(value):
    folder, file = FOLDER.match(value), FILE.match(value)
    if folder and (folder.group(1) is None or int(folder.group(1)) <= 999999):
        return ("folder", folder.group(1) and int(folder.group(1)))
    if file and int(file.group(1)) <= 600 and 1 <= int(file.group(2)) <= 99:
        return ("file", int(file.group(1)), int(file.group(2)))
    return None


def is_four(word):
    return bool(re.match(r"\d{4}\Z", word, re.ASCII)) and word != "0000"


def forms(items):
    """Nodes by numbers, e keys as (key, folder, number), t keys as (key, number, part, length), and the keys without form."""
    nodes, names, parts, wrong = {}, [], [], []
    for key, value in items:
        node, name, part = NODE.match(key), NAME.match(key), PART.match(key)
        number = key[1:5]
        if node and is_four(number) and node_of(value):
            nodes[number] = node_of(value)
        elif name and is_four(number) and name.group(2) not in (".", "..") and is_four(value):
            names.append((key, number, value))
        elif part and is_four(number) and len(value) <= 12:
            parts.append((key, number, int(part.group(2)), len(value)))
        else:
            wrong.append(key)
    return nodes, names, parts, wrong


def leads_from_root(number, names, row=()):
    """Whether some row of e keys leads from 0001 to this number: looked for from its end."""
    for key, folder, called in names:
        if called == number and (folder == "0001" or (key not in row and leads_from_root(folder, names, row + (key,)))):
            return True
    return False


def length_of(size, part):
    """How many signs this part of a text of so many signs must have; 0 for a part that it does not have."""
    return len(("x" * size)[12 * part:12 * part + 12])


def plain_wrong_keys(items):
    nodes, names, parts, wrong = forms(items)
    if nodes.get("0001", ("file",))[0] != "folder":
        wrong.append("n0001")
    for key, folder, number in names:
        if nodes.get(folder, ("file",))[0] != "folder" or number == "0001" or number not in nodes:
            wrong.append(key)
    for key, number, part, length in parts:
        node = nodes.get(number, ("folder",))
        if node[0] != "file" or length_of(node[1], part) != length:
            wrong.append(key)
    for number, node in nodes.items():
        many = len([key for key, _, called in names if called == number])
        if number == "0001":
            continue
        if node[0] == "folder" and (many != 1 or not leads_from_root(number, names)):
            wrong.append("n" + number)
        if node[0] == "file":
            there = {part for _, held, part, _ in parts if held == number}
            lacking = [part for part in range(50) if length_of(node[1], part) and part not in there]
            if many != node[2] or lacking:
                wrong.append("n" + number)
    return tuple(sorted(set(wrong)))


def is_path(value):
    if type(value) is not str or not PATH.match(value):
        return False
    return not [name for name in value.split("/") if name in (".", "..")]


def is_what(what):
    if type(what) is not tuple or not what:
        return False
    if what[0] == "folder" and len(what) == 2:
        return what[1] is None or (type(what[1]) is int and 0 <= what[1] <= 999999)
    if what[0] != "file" or len(what) != 3 or type(what[1]) is not str or len(what[1]) > 600:
        return False
    return not [letter for letter in what[1] if not 32 <= ord(letter) <= 126 or letter == chr(37)]


def stands(tree, number):
    """Whether the row stands, if all ahead of it do, but for the number of nodes."""
    row = tree[number]
    if type(row) is not tuple or len(row) != 2 or not is_path(row[0]) or not is_what(row[1]):
        return False
    path, what = row
    folder = path[:path.rindex("/")] or "/"
    if number == 0:
        if path != "/" or what[0] != "folder":
            return False
    elif path <= tree[number - 1][0] or not [one for one in tree[:number] if one[0] == folder and one[1][0] == "folder"]:
        return False
    if what[0] == "folder":
        return True
    names = what[2]
    if type(names) is not tuple or not 1 <= len(names) <= 99 or [name for name in names if not is_path(name)]:
        return False
    if list(names) != sorted(set(names)) or path not in names:
        return False
    return all([one for one in tree if one == (name, what)] for name in names)


def first_that_cannot_stand(tree):
    """The number of the first row that cannot stand; None if all can."""
    for number in range(len(tree)):
        if not stands(tree, number):
            return number
    return None


def plain_items(tree):
    """The items of a tree that can stand."""
    numbers, items = {}, []
    for path, what in tree:
        node = path if what[0] == "folder" else what[2]
        if node not in numbers:
            numbers[node] = f"{len(numbers) + 1:04d}"
            if what[0] == "folder":
                items.append(("n" + numbers[node], "d" if what[1] is None else f"d {what[1]}"))
            else:
                items.append(("n" + numbers[node], f"f {len(what[1])} {len(what[2])}"))
                for part in range(50):
                    told = what[1][12 * part:12 * part + 12]
                    items += [(f"t{numbers[node]}{part:02d}", told)] if told else []
        if path != "/":
            folder, _, name = path.rpartition("/")
            items.append((f"e{numbers[folder or '/']}{name}", numbers[node]))
    return tuple(sorted(items))


def some_text(chance):
    letters = [chr(number) for number in range(32, 127) if number != 37]
    return "".join(chance.choices(letters, k=chance.choice((0, 1, 5, 11, 12, 13, 24, 25, 100, 600))))


def some_tree(chance, most):
    """A tree with folders in folders, and files of one name and of several."""
    folders, free = ["/"], []
    names = ["a", "b", "a-b", "a.b", "a.", "-", "...", ".a", "zz", "0", "name.txt", "x" * 8]
    for lap in range(chance.randrange(most)):
        folder = chance.choice(folders)
        path = ("" if folder == "/" else folder) + "/" + chance.choice(names)
        if path not in folders and path not in free:
            (folders if chance.random() < 0.45 else free).append(path)
    rows = [(path, ("folder", chance.choice((None, None, 0, 7, 999999)))) for path in folders]
    chance.shuffle(free)
    while free:
        many = chance.choice((1, 1, 2, 3))
        told, free = free[:many], free[many:]
        what = ("file", some_text(chance), tuple(sorted(told)))
        rows += [(path, what) for path in told]
    return tuple(sorted(rows))
