"""Sections 2 and 9: what files refuse, in which sequence, with which value, and that this changes nothing."""

import itertools
import unittest

from file_stories import Pair
from refusals import assert_refused, nested, same, seen, values_of_all_kinds

from worneven.chips import Chip
from worneven.errors import BadDeeds, BadPath, BadQuota, BadSpan, BadText, IsFolder, NoGround, NoPath, NotFolder, There
from worneven.files import Files
from worneven.grounds import Ground

NO_PATHS = values_of_all_kinds() + [
    0, "", "a", "//", "/a/", "/A", " /a", "/a ", "/.", "/..", "/a/.", "/a/../b", "/" + "x" * 9, "/a//b", "/a b", "/\n", "/%", "/a_b", ("/a",), "\\a",
]
NO_TEXTS = values_of_all_kinds() + [0, "%", "a\n", "\t", "x" * 601, "\u20ac", "\x7f", ("a",), ["a"]]
NO_SPANS = values_of_all_kinds() + [-1, 6, 601, "0", "", 10 ** 11]
NO_QUOTAS = [value for value in values_of_all_kinds() if value is not None] + [-1, 1000000, "0", "none", 10 ** 11]
DEEDS = (
    ("make_folder", "/d"), ("make_folder", "/d/e"), ("make_folder", "/q"), ("put", "/f", "12345"), ("add_name", "/f", "/d/g"), ("quota", "/q", 3),
    ("put", "/q/h", "123"),
)


class Refusals(unittest.TestCase):
    def setUp(self):
        self.pair = Pair(self, deeds=DEEDS)
        self.files = self.pair.files
        self.before = self.state()

    def state(self):
        ground = self.files.ground
        return self.files.tree(), ground.number, ground.living, ground.room(), seen(self.pair.chip)

    def check(self, error, value, name, *values):
        """Refused by itself, and in a row of deeds done together, ahead of others and behind them."""
        assert_refused(self, error, value, getattr(self.files, name), *values)
        if name not in ("read", "names", "look"):
            deed = (name, *values)
            assert_refused(self, error, value, self.files.together, (deed,))
            assert_refused(self, error, value, self.files.together, (("put", "/new", "x"), deed, ("put", None, None)))
        self.assertTrue(same(self.state(), self.before))

    def test_paths_that_are_none(self):
        for path in NO_PATHS:
            for name, rest in (
                ("make_folder", ()), ("put", ("text",)), ("put", (None,)), ("write", (0, "x")), ("write", ([], None)), ("cut_to", (None,)),
                ("add_name", ("/x",)), ("add_name", (None,)), ("remove", ()), ("move", ("/x",)), ("move", (None,)), ("quota", (5,)), ("quota", ("x",)),
            ):
                assert_refused(self, BadPath, path, getattr(self.files, name), path, *rest)
            for name in ("read", "names", "look"):
                assert_refused(self, BadPath, path, getattr(self.files, name), path)
            for name, first in (("add_name", "/f"), ("move", "/f"), ("move", "/d")):
                assert_refused(self, BadPath, path, getattr(self.files, name), first, path)
        self.check(BadPath, True, "remove", True)
        self.check(BadPath, nested(30), "move", "/f", nested(30))
        self.assertTrue(same(self.state(), self.before))

    def test_texts(self):
        for text in NO_TEXTS:
            for path in ("/f", "/new", "/d", "/", "/f/x", "/no/x"):
                assert_refused(self, BadText, text, self.files.put, path, text)
            for path in ("/f", "/d", "/"):
                for at in (0, 5, 6, None, True):
                    assert_refused(self, BadText, text, self.files.write, path, at, text)
        self.check(BadText, "a%", "put", "/f", "a%")
        self.assertTrue(same(self.state(), self.before))

    def test_spans(self):
        for number in NO_SPANS:
            assert_refused(self, BadSpan, number, self.files.write, "/f", number, "x")
            assert_refused(self, BadSpan, number, self.files.cut_to, "/d/g", number)
        for at in range(1, 6):
            assert_refused(self, BadSpan, at, self.files.write, "/f", at, "x" * (601 - at))
        self.check(BadSpan, 6, "write", "/f", 6, "")
        self.check(BadSpan, True, "cut_to", "/f", True)

    def test_quotas(self):
        for number in NO_QUOTAS:
            for path in ("/", "/d", "/q"):
                assert_refused(self, BadQuota, number, self.files.quota, path, number)
            assert_refused(self, NotFolder, "/f", self.files.quota, "/f", number)
        self.check(BadQuota, False, "quota", "/d", False)

    def test_paths_that_lead_nowhere_and_through_files(self):
        calls = [("read",), ("names",), ("look",), ("remove",), ("write", 0, "x"), ("cut_to", 0), ("add_name", "/x"), ("move", "/x"), ("quota", 5)]
        for path, error, value in (
            ("/x", NoPath, "/x"), ("/x/y/z", NoPath, "/x"), ("/d/x", NoPath, "/d/x"), ("/d/x/y", NoPath, "/d/x"), ("/d/e/x/y/z", NoPath, "/d/e/x"),
            ("/f/x", NotFolder, "/f"), ("/f/x/y/z", NotFolder, "/f"), ("/d/g/x", NotFolder, "/d/g"), ("/q/h/i/j", NotFolder, "/q/h"),
        ):
            for name, *rest in calls:
                self.check(error, value, name, path, *rest)
        for path, error, value in (
            ("/x/y", NoPath, "/x"), ("/d/x/y/z", NoPath, "/d/x"), ("/f/x", NotFolder, "/f"), ("/f/x/y", NotFolder, "/f"), ("/d/g/x", NotFolder, "/d/g"),
        ):
            self.check(error, value, "make_folder", path)
            self.check(error, value, "put", path, "x")
            self.check(error, value, "add_name", "/f", path)
            self.check(error, value, "move", "/q/h", path)

    def test_what_is_there_is_not_free(self):
        for path in ("/", "/d", "/f", "/d/e", "/d/g", "/q/h"):
            self.check(There, path, "make_folder", path)
            self.check(There, path, "add_name", "/f", path)
            self.check(There, path, "add_name", "/q/h", path)

    def test_files_and_folders(self):
        for path in ("/", "/d", "/d/e"):
            self.check(IsFolder, path, "read", path)
            self.check(IsFolder, path, "put", path, "x")
            self.check(IsFolder, path, "write", path, 0, "x")
            self.check(IsFolder, path, "write", path, None, "x")
            self.check(IsFolder, path, "cut_to", path, None)
            self.check(IsFolder, path, "add_name", path, None)
            self.check(IsFolder, path, "add_name", path, "/f")
        for path in ("/f", "/d/g"):
            self.check(NotFolder, path, "names", path)
            self.check(NotFolder, path, "quota", path, 0)

    def test_all_pairs_of_wrong_values_beside_a_plain_tree(self):
        values = [None, True, "", "/", "/d", "/d/e", "/d/x", "/f", "/d/g", "/f/x", "/no/x", "/q", "/q/h", "/q/x", "/d-", 0, 3, 5, -1, ["/d"], ("/f",), "x%"]
        calls = [(name, *told) for name in ("put", "cut_to", "add_name", "move", "quota") for told in itertools.product(values, repeat=2)]
        for told in itertools.product(("/f", "/d", "/no", None, "/f/x"), (0, 5, 6, None, True), ("x", "x" * 600, "%", None)):
            calls.append(("write", *told))
        fresh = None
        for call in calls:
            if fresh is None:
                fresh = Pair(self)
                fresh.plain.root, fresh.chip = self.pair.plain.root, self.pair.chip.copy()
                fresh.files = Files(fresh.chip)
            if fresh.say(*call) is None:
                fresh = None

    def test_what_was_refused_does_not_keep_files_from_going_on(self):
        for error, value, name, *values in ((BadPath, 5, "put", 5, "x"), (NoPath, "/x", "remove", "/x"), (There, "/d", "make_folder", "/d")):
            self.check(error, value, name, *values)
        self.pair.done("put", "/d/new", "behind")


class TogetherRefusals(unittest.TestCase):
    def test_what_is_no_row_of_deeds(self):
        pair = Pair(self, deeds=DEEDS)
        put = ("put", "/x", "y")
        wrong = [value for value in values_of_all_kinds() if value != ()] + [
            0, "put", put, [put], (list(put),), (put, None), (put, ()), ((),), (("put",),), (("put", "/x"),), (put + ("z",),), (("Put", "/x", "y"),),
            (("together", ()),), (("read", "/f"),), (("tree",),), (("make_folder",),), (("make_folder", "/x", "y"),), (("write", "/f", 0),),
            (("cut_to", "/f"),), (("add_name", "/f"),), (("remove",),), (("move", "/f"),), (("quota", "/d"),), ((None, "/x", "y"),), ((["put"], "/x", "y"),),
            ((("put",), "/x", "y"),), {"put": ("/x", "y")}, (put,) * 21, (put,) * 20 + (None,), ((True, "/x"),), (("do_put", "/x", "y"),), ("put", "/x", "y"),
            (("", "/x", "y"),), ((0, "/x"),), (put, put, ["put", "/x", "y"]),
        ]
        image = pair.chip.image()
        for deeds in wrong:
            assert_refused(self, BadDeeds, deeds, pair.files.together, deeds)
        # What stands in one of them is looked at only behind the form of all.
        assert_refused(self, BadDeeds, (("put", None, None), ("put",)), pair.files.together, (("put", None, None), ("put",)))
        self.assertEqual((pair.chip.image(), pair.files.tree()), (image, pair.plain.tree()))


class OpeningRefusals(unittest.TestCase):
    def test_pages_that_mean_nothing(self):
        chip = Chip(4, 4)
        Ground(chip).commit((("a", "1"),))
        image = chip.image()
        bare = Chip(4, 4)
        bare.write(5, image[1])
        assert_refused(self, NoGround, None, Files, bare)
        # The newest root leads to a place where no sheet lies.
        bare.write(0, image[2])
        assert_refused(self, NoGround, None, Files, bare)

    def test_a_map_that_is_no_tree(self):
        # Of such a chip the document says nothing: it is refused rather than walked in circles.
        for changes in ((("a", "1"),), (("e0001a", "0002"), ("e0002b", "0002"), ("n0001", "d"), ("n0002", "d"))):
            chip = Chip(8, 4)
            Ground(chip).commit(changes)
            image = chip.image()
            assert_refused(self, NoGround, None, Files, chip)
            self.assertEqual(chip.image(), image)

    def test_torn_pages_alone_are_no_reason(self):
        chip = Chip(4, 4)
        for place in range(16):
            chip.write(place, "0" * 256)
        files = Files(chip)
        files.put("/a", "new")
        self.assertEqual(Files(chip).read("/a"), "new")


if __name__ == "__main__":
    unittest.main()
