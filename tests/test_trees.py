"""Section 8: trees told as items and back, and the first row of a tree that cannot stand."""

import random
import unittest

from plain_nodes import first_that_cannot_stand, plain_items, some_tree
from refusals import assert_refused, nested, values_of_all_kinds

from worneven.errors import BadTree
from worneven.nodes import items_of, tree_of, wrong_keys

ROOT = ("/", ("folder", None))
BOTH = ("file", "hi", ("/a", "/b/c"))
TREE = (ROOT, ("/a", BOTH), ("/b", ("folder", 9)), ("/b/c", BOTH), ("/b/d", ("file", "", ("/b/d",))), ("/b-", ("folder", None)))
TREE = tuple(sorted(TREE))
PATHS = ["/", "/a", "/b", "/b/c", "/b/d", "/b-", "/x", "/b/x", "/a/x", "/b/d/x", "/~", "//", "a", "", "/b/", "/b/..", "/B", "/" + "a" * 9]
WHATS = [
    ("folder", None), ("folder", 9), ("folder", 0), ("folder", 999999), ("folder", -1), ("folder", 1000000), ("folder", True), ("folder",),
    BOTH, ("file", "hi", ("/a",)), ("file", "ho", ("/a", "/b/c")), ("file", "hi", ("/b/c", "/a")), ("file", "hi", ("/a", "/a", "/b/c")),
    ("file", "hi", ("/a", "/b/c", "/b/d")), ("file", "hi", ()), ("file", "hi", ["/a", "/b/c"]), ("file", "hi", "/a"), ("file", "hi"),
    ("file", "", ("/b/d",)), ("file", "x\n", ("/b/d",)), ("file", "x" * 601, ("/b/d",)), ("file", 5, ("/b/d",)), ("file", "x", ("/x",)),
    ("file", "hi", ("/a", "/b/c", "/b/")), ("file", "hi", ("/a", 5)), ("node", None), None, "folder", ["folder", None], (), (None, None),
    ("file", "x", ("/b/x",)), ("file", "", ("/a/x",)), ("file", "hi", ("/a", "/b/c"), 1), ("Folder", None), ("file", None, ("/b/d",)),
]


class Trees(unittest.TestCase):
    def check(self, tree):
        number = first_that_cannot_stand(tree)
        if number is not None:
            assert_refused(self, BadTree, number, items_of, tree)
            return number
        items = items_of(tree)
        self.assertEqual(items, plain_items(tree))
        self.assertEqual((wrong_keys(items), tree_of(items)), ((), tree))
        return None

    def test_trees_are_told_as_items_and_back(self):
        self.assertIsNone(self.check(TREE))
        self.assertIsNone(self.check((ROOT,)))
        self.assertEqual(items_of((("/", ("folder", 7)),)), (("n0001", "d 7"),))
        for seed in range(150):
            self.assertIsNone(self.check(some_tree(random.Random(seed), 40)))

    def test_paths_are_compared_as_strings(self):
        rows = [ROOT] + [("/a" + end, ("folder", None)) for end in ("", "-b", "-b/c", ".b", "/b", "/b/c", "0", "b")]
        tree = tuple(sorted(rows))
        self.assertEqual([path for path, _ in tree][:4], ["/", "/a", "/a-b", "/a-b/c"])
        self.assertIsNone(self.check(tree))
        self.assertEqual(self.check(tree[:2] + tree[5:6] + tree[2:5] + tree[6:]), 3)

    def test_each_row_out_twice_and_exchanged(self):
        for at in range(len(TREE)):
            self.check(TREE[:at] + TREE[at + 1:])
            self.check(TREE[:at] + TREE[at:at + 1] + TREE[at:])
            self.check(TREE[:at] + TREE[at + 1:at + 2] + TREE[at:at + 1] + TREE[at + 2:])
        self.assertEqual([self.check(TREE[1:]), self.check(TREE[:1] + TREE[2:])], [0, 3])
        self.assertEqual([self.check(TREE[:4] + TREE[5:]), self.check(TREE[:3] + TREE[4:])], [1, None])

    def test_each_row_with_each_path_and_each_what(self):
        for at in range(len(TREE)):
            for path in PATHS:
                self.check(TREE[:at] + ((path, TREE[at][1]),) + TREE[at + 1:])
            for what in WHATS:
                self.check(TREE[:at] + ((TREE[at][0], what),) + TREE[at + 1:])

    def test_several_rows_that_cannot_stand(self):
        for seed in range(3000):
            chance = random.Random(seed)
            tree = list(TREE)
            for lap in range(chance.randint(1, 3)):
                at = chance.randrange(len(tree))
                tree[at] = (chance.choice(PATHS + [tree[at][0]] * 9), chance.choice(WHATS + [tree[at][1]] * 9))
            self.check(tuple(tree))

    def test_rows_of_another_form(self):
        rows = values_of_all_kinds() + [0, "/", ("/",), ("/x", ("folder", None), 1), ["/x", ("folder", None)], (("/x", ("folder", None)),)]
        for row in rows + [("/x", None), (None, ("folder", None)), (5, BOTH), ("/x", [1]), ({}, {}), nested(2)]:
            for at in range(len(TREE) + 1):
                self.assertEqual(self.check(TREE[:at] + (row,) + TREE[at:]), at)

    def test_what_is_no_tuple_and_what_has_no_rows(self):
        for tree in values_of_all_kinds() + [0, "/", [ROOT], list(TREE), {"/": ("folder", None)}]:
            if not isinstance(tree, tuple):
                assert_refused(self, BadTree, None, items_of, tree)
        assert_refused(self, BadTree, 0, items_of, ())
        for tree in (ROOT, (None,), (("/", BOTH),), (("/a", ("folder", None)),), (("/", ("file", "", ("/",))),)):
            assert_refused(self, BadTree, 0, items_of, tree)

    def test_names_of_files(self):
        for many in (1, 2, 98, 99, 100):
            names = tuple(f"/{number:03d}" for number in range(many))
            tree = (ROOT,) + tuple((name, ("file", "t", names)) for name in names)
            self.assertEqual(self.check(tree) if many < 100 else None, None)
            if many == 100:
                assert_refused(self, BadTree, 1, items_of, tree)
        later = (ROOT, ("/a", ("file", "", ("/a", "/z"))), ("/b", ("folder", None)), ("/z", ("file", "", ("/z",))))
        self.assertEqual(self.check(later), 1)
        alike = (ROOT, ("/a", ("file", "t", ("/a",))), ("/b", ("file", "t", ("/b",))))
        self.assertEqual((self.check(alike), len(items_of(alike))), (None, 7))

    def test_texts_of_all_lengths(self):
        for size in (0, 1, 11, 12, 13, 24, 599, 600):
            text = ("some text, 0 to 9. " * 40)[:size]
            self.assertIsNone(self.check((ROOT, ("/a", ("file", text, ("/a",))))))
        for text in ("x" * 601, "%", "\n", "\u20ac", None, 5, ["x"]):
            assert_refused(self, BadTree, 1, items_of, (ROOT, ("/a", ("file", text, ("/a",)))))

    def test_the_ten_thousandth_node(self):
        folders = (ROOT,) + tuple((f"/{number:05d}", ("folder", None)) for number in range(9999))
        items = items_of(folders[:-1])
        self.assertEqual((len(items), items[0], items[-1]), (2 * 9999 - 1, ("e000100000", "0002"), ("n9999", "d")))
        self.assertEqual(tree_of(items), folders[:-1])
        assert_refused(self, BadTree, 9999, items_of, folders)
        assert_refused(self, BadTree, 9999, items_of, folders + (None,))
        # Each further name of a file is no further node.
        names = ("/00000", "/99999")
        both = ("file", "t", names)
        rows = folders[:1] + ((names[0], both),) + folders[2:-1]
        self.assertEqual(len(items_of(rows + ((names[1], both),))), 2 * 9998 + 1 + 2)
        assert_refused(self, BadTree, 9999, items_of, rows + (("/98", ("folder", None)), (names[1], both)))

    def test_arguments_by_name_and_equal_results(self):
        self.assertEqual(items_of(tree=TREE), items_of(TREE))
        kinds = {type(row) for row in items_of(TREE)} | {type(items_of(TREE)), type(tree_of(items_of(TREE)))}
        self.assertEqual(kinds, {tuple})


if __name__ == "__main__":
    unittest.main()
