"""Files and folders on a chip: each deed, and each row of deeds done together, is done wholly or not at all."""

from worneven.deeds import DEEDS, VALUES, check_file, check_folder, check_walk
from worneven.drafts import changes_between, draft_of
from worneven.errors import BadDeeds, NoGround
from worneven.grounds import Ground
from worneven.nodes import node_key, node_value, wrong_keys
from worneven.quotas import uses_in

MOST_DEEDS = 20


def is_deed(value):
    """Whether it is the name of a deed and so many values as it is told."""
    if not isinstance(value, tuple) or len(value) == 0 or not isinstance(value[0], str):
        return False
    return value[0] in VALUES and len(value) == 1 + VALUES[value[0]]


def are_deeds(value):
    """Whether it is a tuple of deeds, few enough to be done together."""
    return isinstance(value, tuple) and len(value) <= MOST_DEEDS and all([is_deed(deed) for deed in value])


class Files:
    """The files on a chip."""

    def __init__(self, chip):
        self._ground = Ground(chip)
        if not self._ground.held():
            self._ground.commit(((node_key(1), node_value(("folder", None))),))
        if wrong_keys(self._ground.held()):
            raise NoGround(None)
        # The tree that the map with this number tells.
        self._number = 0
        self._held = None

    @property
    def ground(self):
        """The ground on which the files lie."""
        return self._ground

    def make_folder(self, path):
        """Makes a folder without names."""
        self._do((("make_folder", path),))

    def put(self, path, text):
        """Gives a file this text, and makes it if need be."""
        self._do((("put", path, text),))

    def write(self, path, at, text):
        """Writes the text into the file from there on, over what was there."""
        self._do((("write", path, at, text),))

    def cut_to(self, path, size):
        """Leaves the first signs of the file, so many of them."""
        self._do((("cut_to", path, size),))

    def add_name(self, path, other):
        """Gives the file another name, too."""
        self._do((("add_name", path, other),))

    def remove(self, path):
        """Takes the name away, and a file with its last name."""
        self._do((("remove", path),))

    def move(self, path, other):
        """Gives what the path names the other name instead."""
        self._do((("move", path, other),))

    def quota(self, path, number):
        """Gives the folder this quota, or none."""
        self._do((("quota", path, number),))

    def together(self, deeds):
        """Does all the deeds, one behind another, wholly or not at all."""
        if not are_deeds(deeds):
            raise BadDeeds(deeds)
        self._do(deeds)

    def read(self, path):
        """The text of the file."""
        draft = self._draft()
        check_walk(draft, path)
        check_file(draft, path)
        return draft.what(path)[1]

    def names(self, path):
        """The names that the folder holds, ascending."""
        draft = self._draft()
        check_walk(draft, path)
        check_folder(draft, path)
        return draft.names_within(path)

    def look(self, path):
        """Of a file its size and its names; of a folder how many names it holds, its quota, and what is used of it."""
        draft = self._draft()
        check_walk(draft, path)
        word, told = draft.what(path)
        if word == "file":
            return "file", len(told), draft.names_of(path)
        return "folder", len(draft.names_within(path)), told, uses_in(draft.tree())[path]

    def tree(self):
        """The told tree of all that is there."""
        return self._draft().tree()

    def _draft(self):
        """The tree that lies on the ground; it is not altered."""
        if self._number != self._ground.number:
            self._held = draft_of(self._ground.held())
            self._number = self._ground.number
        return self._held

    def _do(self, deeds):
        """Does deeds, which surely are such, in one commit, or in none if they alter nothing."""
        before = self._draft()
        after = before.copy()
        for name, *values in deeds:
            deed = DEEDS[name]
            deed(after, *values)
        changes = changes_between(before, after)
        if changes:
            self._ground.commit(changes)
