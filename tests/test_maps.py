"""Section 6: sheets and their page texts, and what maps tell at the edges that the document names."""

import unittest

from map_pages import Pages
from refusals import assert_refused, nested, values_of_all_kinds

from worneven.codes import opened, sealed
from worneven.errors import BadChanges, BadKey, BadPlaces, BadSheet, BadText
from worneven.maps import map_anew, map_get, map_items, map_places, map_with, sheet_in, written

LEAF = ("leaf", (("a", "one"), ("b", "two")))
FORK = ("fork", (("a", 4), ("d", 7)))
PAGES = {4: "l\na\none\nb\ntwo", 7: "l\nd\nsix\ne\nten", 9: "f\na\n4\nd\n7"}
LONGEST = ("leaf", tuple((letter * 13, "v" * 13) for letter in "abcd"))
NO_INTEGERS = values_of_all_kinds() + ["0", "", "a"]
NO_KEYS = values_of_all_kinds() + [
    0, 1, "", " ", "a b", "a ", " a", "a" * 14, "a" * 400, "%", "a%", "\n", "a\n", "\t", "\x7f", "\x80", "\u20ac", ("a",),
]
NO_VALUES = [value for value in values_of_all_kinds() if value is not None] + [
    0, 1, "", "a" * 14, "%", "\n", "a\nb", "\t", "\x7f", "\u20ac", ("a",), ["a"],
]


class SheetTexts(unittest.TestCase):
    def test_sheets_are_told_again(self):
        for sheet in (
            LEAF, FORK, LONGEST, ("leaf", (("a", "b"),)), ("leaf", (("!", " "), ("~", "a b c"), ("~~", "-"))),
            ("fork", tuple((letter * 13, 10 ** 11 + 7) for letter in "abcd")), ("fork", (("a", 0), ("b", 0))),
        ):
            text = written(sheet, ())
            self.assertEqual(sheet_in(text), sheet)
            self.assertEqual(written(sheet, (1, 2, 3)), text)
            self.assertEqual(opened(sealed(text)), ("whole", text))

    def test_the_words_of_page_texts(self):
        self.assertEqual(written(LEAF, ()), "l\na\none\nb\ntwo")
        self.assertEqual(written(FORK, ()), "f\na\n4\nd\n7")
        self.assertEqual(written(("leaf", (("k", " "),)), ()), "l\nk\n ")

    def test_the_longest_page_text(self):
        self.assertEqual(len(written(LONGEST, ())), 113)
        self.assertEqual(sheet_in(written(LONGEST, ())), LONGEST)

    def test_new_children_have_the_places_that_are_told(self):
        sheet = ("fork", (("a", ("new", 2)), ("b", 5), ("c", ("new", 0)), ("d", ("new", 2))))
        self.assertEqual(written(sheet, (10, 11, 12)), "f\na\n12\nb\n5\nc\n10\nd\n12")
        self.assertEqual(written(sheet, (0, 0, 0, 99)), "f\na\n0\nb\n5\nc\n0\nd\n0")

    def test_texts_that_tell_no_sheet(self):
        near = [
            "", "\n", "l", "f", "l\n", "f\n", "l\na", "l\na\n", "l\na\none\n", "l\na\none\nb", "l\na\none\nb\n",
            "\nl\na\none", "l\n\none", "la\none", "L\na\none", "ll\na\none", "k\na\none", "one", "root\n1\n-", "root\n1\n2",
            "l\nb\none\na\ntwo", "l\na\none\na\ntwo", "l\na b\none", "l\n \none", "l\na\n\nb\ntwo", "l\na\none\n\ntwo",
            "l\n" + "a" * 14 + "\none", "l\na\n" + "v" * 14, "l\na\n1\nb\n2\nc\n3\nd\n4\ne\n5", " l\na\none", "l \na\none",
            "f\na\n4", "f\na\n4\nd", "f\na\n4\nd\n7\n", "f\na\n04\nd\n7", "f\na\n4\nd\n+7", "f\na\n4\nd\n-7", "f\na\n4\nd\n 7",
            "f\na\n4\nd\nx", "f\na\n4\nd\n7.0", "f\na\n4\nd\n1_0", "f\na\n4\nd\n0x7", "f\na\n4\nd\nNone", "f\na\n4\nd\n",
            "f\na\n4\nd\nnew 0", "f\na\nnew\nd\n0", "f\na\n('new', 0)\nd\n7", "f\nd\n4\na\n7", "f\na\n4\na\n7", "f\na\n00\nb\n1",
            "f\na\n1\nb\n2\nc\n3\nd\n4\ne\n5", "f\na\none\nb\ntwo", "F\na\n4\nd\n7", "f\na\n4\nd\n7\nc\n8", "f\na b\n4\nd\n7",
        ]
        for text in near:
            self.assertIsNone(sheet_in(text), repr(text))

    def test_each_word_out_twice_or_exchanged(self):
        for text in ("l\na\none\nb\ntwo\nc\nsix", "f\na\n4\nd\n7\ne\n11"):
            words = text.split("\n")
            for at in range(len(words)):
                self.assertIsNone(sheet_in("\n".join(words[:at] + words[at + 1:])))
                self.assertIsNone(sheet_in("\n".join(words[:at] + words[at:at + 1] + words[at:])))
                self.assertIsNone(sheet_in("\n".join(words[:at] + [""] + words[at + 1:])))
            for at in range(1, len(words) - 2, 2):
                exchanged = words[:at] + words[at + 2:at + 4] + words[at:at + 2] + words[at + 4:]
                self.assertIsNone(sheet_in("\n".join(exchanged)))
        self.assertIsNone(sheet_in("f\n4\na\n7\nd"))

    def test_numbers_as_python_writes_them(self):
        self.assertEqual(sheet_in("f\na\n0\nb\n10"), ("fork", (("a", 0), ("b", 10))))
        self.assertEqual(sheet_in("f\na\n0\nb\n123456789012"), ("fork", (("a", 0), ("b", 123456789012))))
        self.assertEqual(sheet_in("l\na\n007"), ("leaf", (("a", "007"),)))

    def test_what_is_no_page_text(self):
        for text in values_of_all_kinds() + [0, 1, b"l", "l\na\n%", "\t", "a" * 114, "l\na\none\r", "\u20ac", "\x00", ["l"]]:
            assert_refused(self, BadText, text, sheet_in, text)


class SheetRefusals(unittest.TestCase):
    def no_sheets(self):
        found = values_of_all_kinds() + [0, 1, "leaf", "l\na\none", ("leaf",), ("leaf", ()), ("fork", ()), nested(3)]
        found += [LEAF + (1,), list(LEAF), ("leaf", list(LEAF[1])), ("leaf", LEAF[1], ()), ("Leaf", LEAF[1]), ("l", LEAF[1])]
        found += [("fork", FORK[1][:1]), ("fork", LEAF[1]), ("leaf", FORK[1]), (None, LEAF[1]), (["leaf"], LEAF[1])]
        found += [("leaf", (("b", "two"), ("a", "one"))), ("leaf", (("a", "one"), ("a", "two"))), ("leaf", "ab")]
        found += [("leaf", tuple((letter, "v") for letter in "abcde")), ("fork", tuple((letter, 1) for letter in "abcde"))]
        found += [("leaf", (("a", "one"), row)) for row in ("bc", ("b",), ("b", "c", "d"), ["b", "c"], None, 1, (), {"b": "c"})]
        found += [("leaf", ((key, "one"),)) for key in NO_KEYS] + [("fork", ((key, 1), ("~~~", 2))) for key in NO_KEYS]
        found += [("leaf", (("a", value),)) for value in NO_VALUES + [None]]
        return found

    def test_what_is_no_sheet(self):
        for sheet in self.no_sheets():
            assert_refused(self, BadSheet, sheet, written, sheet, ())
            assert_refused(self, BadSheet, sheet, written, sheet, [])

    def test_what_is_no_child(self):
        children = [value for value in NO_INTEGERS] + [
            -1, "4", ("new",), ("new", 0, 0), ("new", -1), ("new", "0"), ("new", True), ("new", None), ("old", 0), (0, "new"),
            ["new", 0], ("New", 0), (0,), (None, 0), ("new", ("new", 0)),
        ]
        for child in children:
            for entries in ((("a", child), ("b", 1)), (("a", 1), ("b", child))):
                assert_refused(self, BadSheet, ("fork", entries), written, ("fork", entries), (1, 2, 3))

    def test_children_without_a_place(self):
        for number in (0, 1, 5, 10 ** 11):
            sheet = ("fork", (("a", 3), ("d", ("new", number))))
            assert_refused(self, BadSheet, sheet, written, sheet, tuple(range(min(number, 7))))
        sheet = ("fork", (("a", ("new", 0)), ("d", ("new", 2))))
        assert_refused(self, BadSheet, sheet, written, sheet, (1, 2))
        self.assertEqual(written(sheet, (1, 2, 3)), "f\na\n1\nd\n3")

    def test_what_are_no_places(self):
        others = [value for value in values_of_all_kinds() if value not in ((), (0,))]
        others += [0, [1, 2], (1, -1), (True,), (1, False), ("1",), (1, None), ((1,),), (1, (2,)), "12", {1: 2}, range(3)]
        for places in others:
            for sheet in (LEAF, FORK, ("fork", (("a", 1), ("b", ("new", 9))))):
                assert_refused(self, BadPlaces, places, written, sheet, places)
        assert_refused(self, BadSheet, None, written, None, None)


class MapEdges(unittest.TestCase):
    def test_keys_between_below_and_behind(self):
        expected = {"a": "one", "b": "two", "d": "six", "e": "ten"}
        for key in ("!", "A", "a", "a!", "a~", "aa", "b", "bb", "c", "d", "d!", "e", "ee", "f", "~" * 13, "a" * 13):
            self.assertEqual(map_get(PAGES.get, 9, key), expected.get(key))
            self.assertIsNone(map_get(PAGES.get, None, key))
            for high in ("!", "a", "b", "c", "d", "e", "z", "~" * 13):
                told = tuple(row for row in sorted(expected.items()) if key <= row[0] <= high)
                self.assertEqual(map_items(PAGES.get, 9, key, high), told)
                self.assertEqual(map_items(PAGES.get, None, key, high), ())

    def test_low_above_high(self):
        self.assertEqual(map_items(PAGES.get, 9, "e", "a"), ())
        self.assertEqual(map_items(PAGES.get, 9, "b", "a~"), ())
        self.assertEqual(map_items(PAGES.get, 9, "b", "b"), (("b", "two"),))

    def test_a_leaf_that_is_the_whole_map(self):
        pages = {0: "l\nk\nv"}
        self.assertEqual(map_get(pages.get, 0, "k"), "v")
        self.assertEqual([map_places(pages.get, 0), map_items(pages.get, 0, "a", "z")], [(0,), (("k", "v"),)])
        self.assertEqual(map_with(pages.get, 0, (("k", None),)), ((), None))
        self.assertEqual(map_with(pages.get, 0, (("k", "v"), ("l", None))), ((), 0))
        self.assertEqual(map_anew(pages.get, 0), ((("leaf", (("k", "v"),)),), ("new", 0)))

    def test_places_of_a_map(self):
        self.assertEqual(map_places(PAGES.get, None), ())
        told = map_places(PAGES.get, 9)
        self.assertEqual((told[-1], sorted(told)), (9, [4, 7, 9]))
        self.assertEqual(map_places(PAGES.get, 7), (7,))

    def test_nothing_altered(self):
        for root in (9, 4, None):
            self.assertEqual(map_with(PAGES.get, root, ()), ((), root))
            self.assertEqual(map_with(PAGES.get, root, (("!", None), ("c", None), ("z", None))), ((), root))
        self.assertEqual(map_with(PAGES.get, 9, (("a", "one"), ("d", "six"), ("e", "ten"))), ((), 9))

    def test_one_leaf_alone_is_made_anew(self):
        sheets, root = map_with(PAGES.get, 9, (("a", "new"), ("d", "six")))
        self.assertEqual(sheets[0], ("leaf", (("a", "new"), ("b", "two"))))
        self.assertEqual(sheets[1], ("fork", (("a", ("new", 0)), ("d", 7))))
        self.assertEqual((len(sheets), root), (2, ("new", 1)))

    def test_a_new_least_key_is_told_in_forks(self):
        sheets, _ = map_with(PAGES.get, 9, (("!", "low"),))
        self.assertEqual(sheets[-1], ("fork", (("!", ("new", 0)), ("d", 7))))
        sheets, _ = map_with(PAGES.get, 9, (("c", "c"), ("d", None), ("f", "f")))
        self.assertEqual(sheets[-1][1][1][0], "e")

    def test_what_is_left_alone_goes_to_a_neighbour_that_is_new_anyway(self):
        texts = {0: "l\na\n1\nb\n2", 1: "l\nd\n1\ne\n2", 2: "l\ng\n1\nh\n2", 3: "f\na\n0\nd\n1\ng\n2"}
        sheets, root = map_with(texts.get, 3, (("d", None), ("g", "new")))
        self.assertEqual(sheets, (
            ("leaf", (("e", "2"), ("g", "new"), ("h", "2"))), ("fork", (("a", 0), ("e", ("new", 0)))),
        ))
        sheets, root = map_with(texts.get, 3, (("a", "new"), ("d", None)))
        self.assertEqual(sheets, (
            ("leaf", (("a", "new"), ("b", "2"), ("e", "2"))), ("fork", (("a", ("new", 0)), ("g", 2))),
        ))

    def test_a_map_may_become_an_elder_sheet(self):
        sheets, root = map_with(PAGES.get, 9, (("a", None), ("b", None)))
        pages = Pages()
        pages.texts = dict(PAGES)
        self.assertEqual(pages.items(pages.keep((sheets, root))), (("d", "six"), ("e", "ten")))
        self.assertLessEqual(len(sheets), 2)

    def test_all_values_of_a_map_without_keys(self):
        self.assertEqual(map_with(PAGES.get, None, ()), ((), None))
        self.assertEqual(map_with(PAGES.get, None, (("a", None),)), ((), None))
        self.assertEqual(map_anew(PAGES.get, None), ((), None))

    def test_the_longest_keys_and_values_in_all_leaves(self):
        held = tuple((f"{number:013d}", "v" * 13) for number in range(64))
        pages = Pages()
        root = pages.keep(map_with(pages.look, None, held))
        self.assertEqual(pages.items(root), held)
        self.assertEqual({len(text) for text in pages.texts.values() if text[0] == "l"}, {113})
        for text in pages.texts.values():
            self.assertEqual(opened(sealed(text)), ("whole", text))

    def test_equal_calls_and_unchanged_arguments(self):
        texts, changes = dict(PAGES), (("b", None), ("c", "x"))
        told = [map_with(texts.get, 9, changes) for lap in range(2)]
        self.assertEqual(told[0], told[1])
        self.assertEqual((texts, changes), (PAGES, (("b", None), ("c", "x"))))
        kinds = [type(told[0]), type(told[0][0]), type(map_items(texts.get, 9, "a", "z")), type(map_places(texts.get, 9))]
        self.assertEqual(kinds, [tuple] * 4)


class MapRefusals(unittest.TestCase):
    def test_keys(self):
        for key in NO_KEYS:
            for root in (9, None):
                assert_refused(self, BadKey, key, map_get, PAGES.get, root, key)
                assert_refused(self, BadKey, key, map_items, PAGES.get, root, key, "a")
                assert_refused(self, BadKey, key, map_items, PAGES.get, root, "a", key)
                assert_refused(self, BadKey, key, map_items, PAGES.get, root, key, None)
        assert_refused(self, BadKey, True, map_items, PAGES.get, 9, True, False)

    def test_changes(self):
        wrong = [value for value in values_of_all_kinds() if value != ()] + [
            0, "ab", [("a", "b")], (("a",),), (("a", "b", "c"),), (["a", "b"],), ("ab",), (("a", "b"), None), ((("a", "b"),),),
            (("b", "x"), ("a", "y")), (("a", "x"), ("a", "y")), (("a", "x"), ("a", None)), (("a", None), ("a", None)),
            (("a", None), ("c", None), ("b", None)), {"a": "b"}, (("a", "b"), ("c", 1)), (("a", "b"), ["c", "d"]),
        ]
        wrong += [((key, "v"),) for key in NO_KEYS] + [(("a", "v"), (key, None)) for key in NO_KEYS]
        wrong += [(("a", value),) for value in NO_VALUES] + [(("a", None), ("b", value)) for value in NO_VALUES]
        for changes in wrong:
            for root in (9, None):
                assert_refused(self, BadChanges, changes, map_with, PAGES.get, root, changes)

    def test_edges_of_keys_and_values_that_may_be(self):
        for key in ("!", "~", "a" * 13, "~" * 13, "0", "-", "$", "&", "\"", "'", "\\"):
            for value in (" ", "v" * 13, "~", "a b", "$&", "\\"):
                sheets, root = map_with(PAGES.get, None, ((key, value),))
                self.assertEqual((sheets, root), ((("leaf", ((key, value),)),), ("new", 0)))
                self.assertEqual(sheet_in(written(sheets[0], ())), sheets[0])


if __name__ == "__main__":
    unittest.main()
