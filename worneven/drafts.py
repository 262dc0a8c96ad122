"""A tree of files in hand, on which deeds are done before they are written to a ground."""

from worneven.nodes import Shape, items_of_node, name_key, number_word, paths_in
from worneven.trees import folder_of, name_of


class Draft:
    """Which paths there are, and what they name."""

    def __init__(self, numbers, whats):
        # By paths, the numbers of the nodes that they name.
        self.numbers = numbers
        # By numbers: ("folder", quota), or ("file", text).
        self.whats = whats

    def copy(self):
        """A draft of its own, alike."""
        return Draft(dict(self.numbers), dict(self.whats))

    def has(self, path):
        """Whether the path is there."""
        return path in self.numbers

    def what(self, path):
        """What the path names."""
        return self.whats[self.numbers[path]]

    def is_folder(self, path):
        """Whether the path, which is there, names a folder."""
        return self.what(path)[0] == "folder"

    def alter(self, path, what):
        """What the path names is this now."""
        self.whats[self.numbers[path]] = what

    def make(self, path, what):
        """A new node, which the path names."""
        number = 1
        while number in self.whats:
            number += 1
        self.whats[number] = what
        self.numbers[path] = number

    def link(self, path, other):
        """The other path names what the path does."""
        self.numbers[other] = self.numbers[path]

    def unlink(self, path):
        """The path is gone, and with its last name what it named."""
        number = self.numbers[path]
        del self.numbers[path]
        if not self.paths_of(number):
            del self.whats[number]

    def rename(self, path, other):
        """The path, and all beneath it, is called so now."""
        moved = {}
        for at, number in self.numbers.items():
            if at == path or at.startswith(path + "/"):
                moved[other + at[len(path):]] = number
            else:
                moved[at] = number
        self.numbers = moved

    def paths_of(self, number):
        """All paths that name this node, ascending."""
        return tuple(sorted([path for path, named in self.numbers.items() if named == number]))

    def names_of(self, path):
        """All paths that name what this one does, ascending."""
        return self.paths_of(self.numbers[path])

    def names_within(self, path):
        """The names that the folder holds, ascending."""
        return tuple(sorted([name_of(at) for at in self.numbers if at != "/" and folder_of(at) == path]))

    def names_by_numbers(self):
        """All paths that name each node, ascending."""
        names = {number: [] for number in self.whats}
        for path in sorted(self.numbers):
            names[self.numbers[path]].append(path)
        return {number: tuple(paths) for number, paths in names.items()}

    def tree(self):
        """The told tree."""
        names = self.names_by_numbers()
        rows = []
        for path in sorted(self.numbers):
            what = self.what(path)
            rows.append((path, what if what[0] == "folder" else (*what, names[self.numbers[path]])))
        return tuple(rows)

    def keyed(self):
        """The keys and values of a map that tell this tree, as a dict."""
        found = {}
        for number, names in self.names_by_numbers().items():
            found.update(dict(items_of_node(number, self.whats[number], len(names))))
        for path, number in self.numbers.items():
            if path != "/":
                found[name_key(self.numbers[folder_of(path)], name_of(path))] = number_word(number)
        return found


def draft_of(items):
    """The tree that these items tell, which surely are one."""
    shape = Shape(items)
    return Draft(dict(paths_in(shape)), {number: shape.what(number) for number in shape.nodes})


def changes_between(before, after):
    """What is to be changed in the map of the one draft to make it that of the other."""
    held = before.keyed()
    wanted = after.keyed()
    keys = [key for key in sorted({**held, **wanted}) if held.get(key) != wanted.get(key)]
    return tuple([(key, wanted.get(key)) for key in keys])
