"""What lies in the map: folders and files as keys and values, and trees told as items and back."""

from worneven.errors import BadItems, BadName, BadNode, BadNumber, BadPart, BadText, BadValue
from worneven.trees import MOST_NAMES, MOST_NODES, MOST_QUOTA, check_tree, folder_of, is_quota, name_of, path_in
from worneven.words import FIGURES, MOST_TEXT, are_keyed, has_only, is_between, is_name, is_text, is_value, number_in

PART = 12
MOST_PART = 49


def check_number(number):
    """Raises BadNumber unless it is the number of a node."""
    if not is_between(number, 1, MOST_NODES):
        raise BadNumber(number)


def number_word(number):
    """The number of a node in four figures."""
    return f"{number:04d}"


def node_key(number):
    """The key of what this node is."""
    check_number(number)
    return f"n{number_word(number)}"


def name_key(number, name):
    """The key of this name in the folder with the number."""
    check_number(number)
    if not is_name(name):
        raise BadName(name)
    return f"e{number_word(number)}{name}"


def part_key(number, part):
    """The key of this part of the text of the file with the number."""
    check_number(number)
    if not is_between(part, 0, MOST_PART):
        raise BadPart(part)
    return f"t{number_word(number)}{part:02d}"


def is_node(node):
    """Whether it tells a folder with its quota, or a file with its size and how many names it has."""
    if not isinstance(node, tuple):
        return False
    if len(node) == 2:
        return node[0] == "folder" and is_quota(node[1])
    if len(node) != 3 or node[0] != "file":
        return False
    return is_between(node[1], 0, MOST_TEXT) and is_between(node[2], 1, MOST_NAMES)


def node_value(node):
    """The value that tells this node."""
    if not is_node(node):
        raise BadNode(node)
    if node[0] == "file":
        return f"f {node[1]} {node[2]}"
    return "d" if node[1] is None else f"d {node[1]}"


def node_told(value):
    """The node that this value of a map tells; None if it tells none."""
    word, *rest = value.split(" ")
    numbers = [number_in(told) for told in rest]
    if word == "d" and not rest:
        return "folder", None
    node = None
    if word == "d" and len(rest) == 1 and numbers[0] is not None:
        node = ("folder", numbers[0])
    if word == "f" and len(rest) == 2:
        node = ("file", numbers[0], numbers[1])
    return node if is_node(node) else None


def node_in(value):
    """The node that the value tells."""
    node = node_told(value) if is_value(value) else None
    if node is None:
        raise BadValue(value)
    return node


def parts_of(text):
    """The parts into which this text of a file is cut."""
    return tuple([text[at:at + PART] for at in range(0, len(text), PART)])


def parts(text):
    """The parts into which the text is cut."""
    if not is_text(text):
        raise BadText(text)
    return parts_of(text)


def figures_in(word, many):
    """The number in a word of just so many figures; None if it is no such word."""
    if len(word) != many or not has_only(word, FIGURES):
        return None
    return int(word)


def node_number_in(word):
    """The number of a node in four figures; None if none stands there."""
    number = figures_in(word, 4)
    return None if number == 0 else number


class Shape:
    """What items tell by their forms, and at which keys they have none."""

    def __init__(self, items):
        self.broken = {}
        # By numbers.
        self.nodes = {}
        # By keys: the folder's number, the name, the number that is called so.
        self.entries = {}
        # By numbers and parts.
        self.pieces = {}
        for key, value in items:
            if not self.takes(key, value):
                self.broken[key] = True

    def takes(self, key, value):
        """Whether key and value have a form that belongs together; they are noted then."""
        number = node_number_in(key[1:5])
        rest = key[5:]
        if number is None:
            return False
        if key[0] == "n" and rest == "":
            node = node_told(value)
            if node is not None:
                self.nodes[number] = node
            return node is not None
        if key[0] == "e" and is_name(rest):
            called = node_number_in(value)
            if called is not None:
                self.entries[key] = (number, rest, called)
            return called is not None
        part = figures_in(rest, 2)
        if key[0] == "t" and part is not None and part <= MOST_PART and len(value) <= PART:
            self.pieces[(number, part)] = value
            return True
        return False

    def is_folder(self, number):
        """Whether there is a folder with this number."""
        return number in self.nodes and self.nodes[number][0] == "folder"

    def lengths(self, number):
        """How long the parts of this node's text must be; a folder, and what is no node, has none."""
        if number not in self.nodes or self.is_folder(number):
            return []
        size = self.nodes[number][1]
        return [min(PART, size - at) for at in range(0, size, PART)]

    def what(self, number):
        """What surely is a node of a tree: ("folder", quota), or ("file", text)."""
        if self.is_folder(number):
            return self.nodes[number]
        return "file", "".join([self.pieces[(number, part)] for part in range(len(self.lengths(number)))])

    def called(self):
        """By numbers, how many names tell this node."""
        many = {}
        for _, _, number in self.entries.values():
            many[number] = many.get(number, 0) + 1
        return many

    def reached(self):
        """The numbers, as a dict, to which rows of names lead from the root folder."""
        within = {}
        for folder, _, number in self.entries.values():
            within.setdefault(folder, []).append(number)
        found = {}
        ahead = [1]
        while ahead:
            folder = ahead.pop()
            for number in within.get(folder, []):
                if number not in found:
                    found[number] = True
                    ahead.append(number)
        return found


def wrong_in_names(shape):
    """The keys of names that stand in no folder, or that name the root folder or no node."""
    wrong = []
    for key, (folder, _, number) in shape.entries.items():
        if not shape.is_folder(folder) or number == 1 or number not in shape.nodes:
            wrong.append(key)
    return wrong


def wrong_in_texts(shape):
    """The keys of parts that their files do not have so."""
    wrong = []
    for (number, part), text in shape.pieces.items():
        lengths = shape.lengths(number)
        if part >= len(lengths) or len(text) != lengths[part]:
            wrong.append(part_key(number, part))
    return wrong


def wrong_in_nodes(shape):
    """The keys of nodes that do not have the names or parts that they must have."""
    called = shape.called()
    reached = shape.reached()
    wrong = [] if shape.is_folder(1) or node_key(1) in shape.broken else [node_key(1)]
    for number, node in shape.nodes.items():
        if number > 1 and node[0] == "folder" and (called.get(number, 0) != 1 or number not in reached):
            wrong.append(node_key(number))
        if number > 1 and node[0] == "file":
            lacking = [part for part in range(len(shape.lengths(number))) if (number, part) not in shape.pieces]
            if called.get(number, 0) != node[2] or lacking:
                wrong.append(node_key(number))
    return wrong


def wrong_in(shape):
    """All wrong keys, ascending."""
    wrong = list(shape.broken) + wrong_in_names(shape) + wrong_in_texts(shape) + wrong_in_nodes(shape)
    return tuple(sorted(wrong))


def wrong_keys(items):
    """All keys at which the items are no tree, ascending."""
    if not are_keyed(items, False):
        raise BadItems(None)
    return wrong_in(Shape(items))


def paths_in(shape):
    """(path, number) of the root folder and of all names, of what surely is a tree."""
    within = {}
    for folder, name, number in shape.entries.values():
        within.setdefault(folder, []).append((name, number))
    found = []
    ahead = [("/", 1)]
    while ahead:
        path, number = ahead.pop()
        found.append((path, number))
        for name, below in within.get(number, []):
            ahead.append((path_in(path, name), below))
    return sorted(found)


def tree_of(items):
    """The told tree of the items."""
    if not are_keyed(items, False):
        raise BadItems(None)
    shape = Shape(items)
    wrong = wrong_in(shape)
    if wrong:
        raise BadItems(wrong[0])
    paths = paths_in(shape)
    names = {}
    for path, number in paths:
        names.setdefault(number, []).append(path)
    rows = []
    for path, number in paths:
        what = shape.what(number)
        rows.append((path, what if what[0] == "folder" else (*what, tuple(names[number]))))
    return tuple(rows)


def items_of(tree):
    """The items of the told tree, nodes numbered from 1 on in the sequence of their first rows."""
    check_tree(tree)
    numbers = {}
    items = []
    many = 0
    for path, what in tree:
        names = (path,) if what[0] == "folder" else what[2]
        if names[0] == path:
            many += 1
            numbers[path] = many
            items.extend(items_of_node(many, what[:2], len(names)))
        if path != "/":
            items.append((name_key(numbers[folder_of(path)], name_of(path)), number_word(numbers[names[0]])))
    return tuple(sorted(items))


def items_of_node(number, what, links):
    """The items that tell ("folder", quota) or ("file", text) with so many names, but for these names."""
    if what[0] == "folder":
        return [(node_key(number), node_value(what))]
    text = what[1]
    items = [(node_key(number), node_value(("file", len(text), links)))]
    for part, told in enumerate(parts_of(text)):
        items.append((part_key(number, part), told))
    return items
