"""Section 10, walks: what lies beneath a path and in which sequence, names of files, parts of texts, and refusals."""

import random
import unittest

from plain_nodes import some_tree
from refusals import assert_refused, values_of_all_kinds

from worneven.errors import BadText, BadTree, IsFolder, NoPath
from worneven.walks import deepest, holding, names_of, walk

ROOT = ("/", ("folder", None))
FIVE, THREE = ("file", "hello", ("/a/x", "/b")), ("file", "abc", ("/a/y", "/a/z"))
TREE = (
    ROOT, ("/a", ("folder", 10)), ("/a-b", ("folder", 3)), ("/a-b/t", ("file", "four", ("/a-b/t",))), ("/a.", ("folder", None)),
    ("/a/x", FIVE), ("/a/y", THREE), ("/a/z", THREE), ("/b", FIVE),
)
NO_TREES = [value for value in values_of_all_kinds() if not isinstance(value, tuple)] + [0, "/", list(TREE)]


def children(tree, folder):
    """The paths that lie in a folder, by their names there."""
    ahead = "/" if folder == "/" else folder + "/"
    found = [path for path, _ in tree if path != "/" and path.startswith(ahead) and "/" not in path[len(ahead):]]
    return sorted(found, key=lambda path: path[len(ahead):])


def plain_walk(tree, path):
    """First the path, then a walk of each that lies in it."""
    told = [path]
    if dict(tree)[path][0] == "folder":
        for child in children(tree, path):
            told += plain_walk(tree, child)
    return told


class Walks(unittest.TestCase):
    def check(self, tree):
        paths = [path for path, _ in tree]
        for path in paths:
            self.assertEqual(walk(tree, path), tuple(plain_walk(tree, path)))
            what = dict(tree)[path]
            if what[0] == "folder":
                assert_refused(self, IsFolder, path, names_of, tree, path)
            else:
                self.assertEqual((names_of(tree, path), walk(tree, path)), (what[2], (path,)))
            for part in ("", "a", "four", "hello", "lo", what[1] if what[0] == "file" else " "):
                expected = [at for at in plain_walk(tree, path) if dict(tree)[at][0] == "file" and part in dict(tree)[at][1]]
                self.assertEqual(holding(tree, path, part), tuple(expected))
        self.assertEqual(sorted(walk(tree, "/")), paths)
        self.assertEqual(deepest(tree), max(len([name for name in path.split("/") if name]) for path in paths))

    def test_the_tree_of_the_document(self):
        self.check(TREE)
        self.assertEqual(walk(TREE, "/"), ("/", "/a", "/a/x", "/a/y", "/a/z", "/a-b", "/a-b/t", "/a.", "/b"))

    def test_the_walk_is_not_in_the_sequence_of_strings(self):
        rows = [ROOT] + [(path, ("folder", None)) for path in ("/a", "/a-", "/a.", "/a/b", "/a/b-", "/a/b/c", "/a0", "/a-/x", "/a./y")]
        tree = tuple(sorted(rows))
        self.check(tree)
        self.assertEqual(walk(tree, "/"), ("/", "/a", "/a/b", "/a/b/c", "/a/b-", "/a-", "/a-/x", "/a.", "/a./y", "/a0"))
        self.assertEqual([path for path, _ in tree][1:4], ["/a", "/a-", "/a-/x"])

    def test_many_trees(self):
        for seed in range(50):
            self.check(some_tree(random.Random(seed), 40))

    def test_what_lies_beneath_begins_with_a_slash(self):
        self.assertEqual([walk(TREE, "/a"), walk(TREE, "/a-b"), walk(TREE, "/a.")], [
            ("/a", "/a/x", "/a/y", "/a/z"), ("/a-b", "/a-b/t"), ("/a.",),
        ])

    def test_parts(self):
        for part, told in (
            ("", ("/a/x", "/a/y", "/a/z", "/a-b/t", "/b")), ("hello", ("/a/x", "/b")), ("hellos", ()), ("o", ("/a/x", "/a-b/t", "/b")),
            ("ello", ("/a/x", "/b")), ("H", ()), (" ", ()), ("x" * 600, ()), ("abc", ("/a/y", "/a/z")), ("bca", ()),
        ):
            self.assertEqual(holding(TREE, "/", part), told)
        self.assertEqual([holding(TREE, "/b", "l"), holding(TREE, "/b", "x"), holding(TREE, "/a.", "")], [("/b",), (), ()])

    def test_deepest(self):
        tree = (ROOT,)
        self.assertEqual(deepest(tree), 0)
        for many in range(1, 12):
            tree += (("/d" * many, ("folder", None)),)
            self.assertEqual((deepest(tree), walk(tree, "/d")), (many, tuple("/d" * lap for lap in range(1, many + 1))))
        self.assertEqual([deepest((ROOT, ("/x", ("file", "", ("/x",))))), deepest(TREE)], [1, 2])

    def test_arguments_by_name_and_equal_results(self):
        self.assertEqual(walk(path="/a", tree=TREE), walk(TREE, "/a"))
        self.assertEqual(names_of(path="/b", tree=TREE), ("/a/x", "/b"))
        self.assertEqual(holding(part="abc", path="/a", tree=TREE), ("/a/y", "/a/z"))
        self.assertEqual(deepest(tree=TREE), 2)
        self.assertEqual({type(told) for told in (walk(TREE, "/"), names_of(TREE, "/b"), holding(TREE, "/", "zz"))}, {tuple})


class WalkRefusals(unittest.TestCase):
    def all_refuse(self, number, tree, path, part):
        assert_refused(self, BadTree, number, walk, tree, path)
        assert_refused(self, BadTree, number, names_of, tree, path)
        assert_refused(self, BadTree, number, holding, tree, path, part)
        assert_refused(self, BadTree, number, deepest, tree)

    def test_trees(self):
        for path, part in (("/", ""), ("/nowhere", "a"), (None, None), ([], 5)):
            for tree in NO_TREES:
                self.all_refuse(None, tree, path, part)
            # Without /a/x it is /b, the other name of that file, that cannot stand.
            for tree, number in (((), 0), ((None,), 0), (TREE[1:], 0), (TREE + (None,), 9), (TREE[:5] + TREE[6:], 7), (TREE[::-1], 0)):
                self.all_refuse(number, tree, path, part)

    def test_paths(self):
        others = values_of_all_kinds() + [
            0, "", "a", "//", "/a/", "/A", "/nowhere", "/a/w", "/a/x/y", "/b/", "/-", "/a ", " /a", "/a-b/", "%", "/" + "a" * 9, ("/a",), ["/"],
        ]
        for path in others:
            assert_refused(self, NoPath, path, walk, TREE, path)
            assert_refused(self, NoPath, path, names_of, TREE, path)
            assert_refused(self, NoPath, path, holding, TREE, path, "a")
            assert_refused(self, NoPath, path, holding, TREE, path, None)

    def test_folders_have_no_names(self):
        for path in ("/", "/a", "/a-b", "/a."):
            assert_refused(self, IsFolder, path, names_of, TREE, path)

    def test_parts(self):
        for part in values_of_all_kinds() + [0, "%", "a\n", "\t", "a" * 601, "\u20ac", ("a",), ["a"]]:
            for path in ("/", "/b", "/a."):
                assert_refused(self, BadText, part, holding, TREE, path, part)


if __name__ == "__main__":
    unittest.main()
