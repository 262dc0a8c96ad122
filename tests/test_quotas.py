"""Section 10, quotas: what is used, what is over, what room is left, and refusals."""

import random
import unittest

from plain_nodes import some_tree
from refusals import assert_refused, nested, values_of_all_kinds

from worneven.errors import BadTree, NoPath, NotFolder
from worneven.quotas import over, room_in, used

ROOT = ("/", ("folder", None))
FIVE, THREE = ("file", "hello", ("/a/x", "/b")), ("file", "abc", ("/a/y", "/a/z"))
TREE = (
    ROOT, ("/a", ("folder", 10)), ("/a-b", ("folder", 3)), ("/a-b/t", ("file", "four", ("/a-b/t",))), ("/a/x", FIVE), ("/a/y", THREE),
    ("/a/z", THREE), ("/b", FIVE),
)
NO_TREES = [value for value in values_of_all_kinds() if not isinstance(value, tuple)] + [0, "/", list(TREE)]


def plain_used(tree, path):
    """Of each file that lies beneath by one of its names or more, the size, once."""
    texts = {}
    for at, what in tree:
        if what[0] == "file" and at.startswith("/" if path == "/" else path + "/"):
            texts[what[2]] = what[1]
    return sum(len(text) for text in texts.values())


def folders(tree):
    return [(path, what[1]) for path, what in tree if what[0] == "folder"]


def lies_in(path, folder):
    return path == folder or folder == "/" or path.startswith(folder + "/")


def with_quotas(chance, tree):
    return tuple((path, ("folder", chance.choice((None, 0, 5, 50, 700, 999999))) if what[0] == "folder" else what) for path, what in tree)


class Quotas(unittest.TestCase):
    def check(self, tree):
        broken = []
        for path, quota in folders(tree):
            self.assertEqual(used(tree, path), plain_used(tree, path))
            if quota is not None and quota < plain_used(tree, path):
                broken.append((path, quota, plain_used(tree, path)))
            rooms = [limit - plain_used(tree, at) for at, limit in folders(tree) if limit is not None and lies_in(path, at)]
            self.assertEqual(room_in(tree, path), min(rooms) if rooms else None)
        self.assertEqual(over(tree), tuple(broken))
        for path, what in tree:
            if what[0] == "file":
                assert_refused(self, NotFolder, path, used, tree, path)
                assert_refused(self, NotFolder, path, room_in, tree, path)

    def test_the_tree_of_the_document(self):
        self.check(TREE)
        self.assertEqual([used(TREE, "/a"), used(TREE, "/a-b"), used(TREE, "/")], [8, 4, 12])

    def test_many_trees(self):
        broken = 0
        for seed in range(60):
            tree = with_quotas(random.Random(seed), some_tree(random.Random(seed), 40))
            self.check(tree)
            broken += len(over(tree))
        self.assertGreater(broken, 60)

    def test_the_root_folder_alone(self):
        for quota, room in ((None, None), (0, 0), (7, 7), (999999, 999999)):
            tree = (("/", ("folder", quota)),)
            self.assertEqual((used(tree, "/"), over(tree), room_in(tree, "/")), (0, (), room))

    def test_just_enough_is_not_over(self):
        for quota, told in ((5, ()), (6, ()), (4, (("/", 4, 5),)), (0, (("/", 0, 5),))):
            tree = (("/", ("folder", quota)), ("/f", ("file", "hello", ("/f",))))
            self.assertEqual((over(tree), room_in(tree, "/")), (told, quota - 5))

    def test_files_by_several_names_and_in_several_folders(self):
        names = ("/a/b/c/f", "/a/b/f", "/a/b/g", "/a/z", "/d/f")
        what = ("file", "1234567", names)
        paths = [(path, ("folder", quota)) for path, quota in (("/", 7), ("/a", 6), ("/a/b", 9), ("/a/b/c", None), ("/d", 0), ("/e", 0))]
        tree = tuple(sorted(paths + [(name, what) for name in names]))
        self.check(tree)
        self.assertEqual([used(tree, path) for path in ("/", "/a", "/a/b", "/a/b/c", "/d", "/e")], [7, 7, 7, 7, 7, 0])
        self.assertEqual(over(tree), (("/a", 6, 7), ("/d", 0, 7)))
        self.assertEqual([room_in(tree, path) for path in ("/", "/a", "/a/b", "/a/b/c", "/d", "/e")], [0, -1, -1, -1, -7, 0])

    def test_a_folder_whose_name_goes_on_is_another_one(self):
        rows = [ROOT] + [(path, ("folder", 1)) for path in ("/a", "/a-", "/a.", "/ab", "/a/a")] + [("/ab/f", ("file", "long", ("/ab/f",)))]
        tree = tuple(sorted(rows))
        self.check(tree)
        self.assertEqual([used(tree, path) for path in ("/a", "/a-", "/a.", "/ab", "/a/a", "/")], [0, 0, 0, 4, 0, 4])

    def test_the_bold_sentences(self):
        for seed in range(40):
            tree = some_tree(random.Random(1000 + seed), 40)
            sums = {path: used(tree, path) for path, _ in folders(tree)}
            for path in sums:
                within = [at for at in sums if at != path and lies_in(at, path) and "/" not in at[len(path.rstrip("/")) + 1:]]
                self.assertTrue(all(sums[at] <= sums[path] for at in within))
                own = {what[2]: len(what[1]) for at, what in tree if what[0] == "file" and (at.rpartition("/")[0] or "/") == path}
                self.assertLessEqual(sums[path], sum(sums[at] for at in within) + sum(own.values()))
            files = {what[2]: len(what[1]) for _, what in tree if what[0] == "file"}
            self.assertEqual(sums["/"], sum(files.values()))

    def test_arguments_by_name_and_equal_results(self):
        self.assertEqual([used(path="/a", tree=TREE), room_in(path="/a", tree=TREE), over(tree=TREE)], [8, 2, (("/a-b", 3, 4),)])
        self.assertEqual((over(TREE), type(over(TREE)), type(over(TREE)[0])), (over(TREE), tuple, tuple))


class QuotaRefusals(unittest.TestCase):
    def test_trees(self):
        for path in ("/", "/nowhere", None, [], "/b"):
            wrong = [(tree, None) for tree in NO_TREES]
            wrong += [((), 0), ((None,), 0), (TREE[1:], 0), (TREE + (None,), 8), (TREE[:4] + TREE[5:], 6), (TREE[::-1], 0), (nested(3), 0)]
            for tree, number in wrong:
                assert_refused(self, BadTree, number, used, tree, path)
                assert_refused(self, BadTree, number, room_in, tree, path)
                assert_refused(self, BadTree, number, over, tree)

    def test_paths(self):
        others = values_of_all_kinds() + [
            0, "", "a", "//", "/a/", "/A", "/nowhere", "/a/w", "/a/x/y", "/b/", "/-", "/a ", " /a", "/a-b/", "%", "/" + "a" * 9, ("/a",), ["/"],
        ]
        for path in others:
            assert_refused(self, NoPath, path, used, TREE, path)
            assert_refused(self, NoPath, path, room_in, TREE, path)


if __name__ == "__main__":
    unittest.main()
