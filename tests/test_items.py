"""Section 8: which keys of items are wrong, each way alone and with others, and what items tell."""

import random
import unittest

from plain_nodes import plain_wrong_keys, some_tree
from refusals import assert_refused, nested, values_of_all_kinds

from worneven.errors import BadItems
from worneven.nodes import items_of, tree_of, wrong_keys

BOTH = ("file", "thirteen sign", ("/a", "/b/c"))
TREE = (
    ("/", ("folder", None)), ("/a", BOTH), ("/b", ("folder", 9)), ("/b/c", BOTH), ("/b/d", ("file", "", ("/b/d",))),
    ("/b/e", ("folder", None)), ("/b/e/f", ("folder", 0)),
)
ITEMS = {
    "e0001a": "0002", "e0001b": "0003", "e0003c": "0002", "e0003d": "0004", "e0003e": "0005", "e0005f": "0006", "n0001": "d",
    "n0002": "f 13 2", "n0003": "d 9", "n0004": "f 0 1", "n0005": "d", "n0006": "d 0", "t000200": "thirteen sig", "t000201": "n",
}
KEYS = sorted(ITEMS) + [
    "n0000", "n0007", "n9999", "n001", "n00010", "n000a", "N0001", "e0000a", "e0001.", "e0001..", "e0001A", "e0001", "e0002x", "e0003x",
    "e0004x", "e0006x", "e0009x", "e001a", "e0001aaaaaaaa", "t000000", "t000202", "t000249", "t000250", "t00020", "t0002000", "t000299",
    "t000400", "t000300", "t000900", "t0002-1", "x", "d", "x0001", "0001", "-", "t0002", "e0005g", "e0006f", "e0005h",
]
VALUES = [
    "0001", "0002", "0003", "0004", "0005", "0006", "0007", "0000", "9999", "2", "002", "00002", "d", "d 9", "d 09", "d 1000000", "f 0 1",
    "f 1 1", "f 13 2", "f 13 1", "f 12 1", "f 13 3", "f 601 1", "f 0 0", "f 1 100", "f 01 1", "t", "thirteen sig", "thirteen sign", "n", " ",
]


def items_with(**changes):
    return tuple(sorted((key, value) for key, value in {**ITEMS, **changes}.items() if value is not None))


class WrongKeys(unittest.TestCase):
    def check(self, items):
        expected = plain_wrong_keys(items)
        told = wrong_keys(items)
        self.assertEqual(told, expected, items)
        if expected:
            assert_refused(self, BadItems, expected[0], tree_of, items)
        else:
            tree_of(items)
        return told

    def test_the_tree_from_which_all_go_out(self):
        self.assertEqual(items_of(TREE), items_with())
        self.assertEqual((self.check(items_with()), tree_of(items_with())), ((), TREE))

    def test_each_way_alone(self):
        for changes, wrong in (
            ({"x": "d"}, ("x",)), ({"n0000": "d"}, ("n0000",)), ({"n0003": "d 09"}, ("e0001b", "e0003c", "e0003d", "e0003e", "n0003")),
            ({"n0001": None}, ("e0001a", "e0001b", "n0001")), ({"n0001": "f 0 1"}, ("e0001a", "e0001b", "n0001")),
            ({"n0001": "x"}, ("e0001a", "e0001b", "n0001")), ({"n0001": "f 0 0"}, ("e0001a", "e0001b", "n0001")),
            ({"e0009x": "0004"}, ("e0009x", "n0004")), ({"e0004x": "0002"}, ("e0004x", "n0002")),
            ({"e0001x": "0001"}, ("e0001x",)), ({"e0001x": "0099"}, ("e0001x",)), ({"e0001x": "099"}, ("e0001x",)),
            ({"t000300": "x"}, ("t000300",)), ({"t009900": "x"}, ("t009900",)), ({"t000202": "x"}, ("t000202",)),
            ({"t000400": "x"}, ("t000400",)), ({"t000201": "nn"}, ("t000201",)), ({"t000200": "x"}, ("t000200",)),
            ({"t000200": "thirteen sign"}, ("n0002", "t000200")), ({"t000201": None}, ("n0002",)), ({"t000200": None}, ("n0002",)),
            ({"n0007": "d"}, ("n0007",)), ({"e0003x": "0005"}, ("n0005",)), ({"e0003e": None}, ("n0005", "n0006")),
            ({"e0003e": None, "e0006x": "0005"}, ("n0005", "n0006")), ({"e0001a": None}, ("n0002",)), ({"e0001x": "0002"}, ("n0002",)),
            ({"n0004": "f 1 1"}, ("n0004",)), ({"n0004": "f 0 2"}, ("n0004",)), ({"n0004": None}, ("e0003d",)),
            ({"n0004": "f 1 1", "t000400": "ab"}, ("t000400",)), ({"n0002": None}, ("e0001a", "e0003c", "t000200", "t000201")),
            ({"n0006": "f 0 1"}, ()), ({"n0005": "f 0 1"}, ("e0005f",)), ({"n0007": "f 0 1"}, ("n0007",)),
        ):
            self.assertEqual(self.check(items_with(**changes)), wrong, changes)

    def test_a_wrong_key_tells_what_it_tells_all_the_same(self):
        self.assertEqual(self.check(items_with(e0009x="0007", n0007="f 0 1")), ("e0009x",))
        self.assertEqual(self.check(items_with(e0004x="0007", n0007="d")), ("e0004x",))
        self.assertEqual(self.check(items_with(e0009x="0007", n0007="d")), ("e0009x", "n0007"))
        self.assertEqual(self.check(items_with(n0007="d", n0008="d", e0007a="0008", e0008a="0007")), ("n0007", "n0008"))
        self.assertEqual(self.check(items_with(n0007="d", e0007a="0007")), ("n0007",))
        self.assertEqual(self.check((("e0001a", "0002"), ("n0002", "d"))), ("e0001a", "n0001"))
        self.assertEqual(self.check((("e0001a", "0009"), ("e0009b", "0002"), ("n0001", "d"), ("n0002", "d"))), ("e0001a", "e0009b"))

    def test_no_items_and_few(self):
        self.assertEqual([self.check(()), self.check((("n0001", "d"),)), self.check((("x", "y"),))], [("n0001",), (), ("n0001", "x")])
        self.assertEqual(tree_of((("n0001", "d 7"),)), (("/", ("folder", 7)),))

    def test_each_key_with_each_value_and_without_it(self):
        for key in KEYS:
            for value in VALUES + [None]:
                self.check(items_with(**{key: value}))

    def test_several_wrong_at_once(self):
        for seed in range(3000):
            chance = random.Random(seed)
            changes = {key: chance.choice(VALUES + [None, None]) for key in chance.sample(KEYS, chance.randint(2, 6))}
            self.check(items_with(**changes))

    def test_trees_with_a_key_out_or_otherwise(self):
        for seed in range(60):
            chance = random.Random(seed)
            items = items_of(some_tree(chance, 14))
            self.assertEqual(self.check(items), ())
            for at in range(len(items)):
                self.check(items[:at] + items[at + 1:])
                self.check(items[:at] + ((items[at][0], chance.choice(VALUES)),) + items[at + 1:])

    def test_numbers_otherwise_than_from_one_on(self):
        turned = {"0002": "9999", "0003": "0002", "0004": "0500", "0005": "0003", "0006": "0004"}
        items = []
        for key, value in items_with():
            number = turned.get(key[1:5], key[1:5])
            items.append((key[0] + number + key[5:], turned.get(value, value) if key[0] == "e" else value))
        items = tuple(sorted(items))
        self.assertEqual((self.check(items), tree_of(items)), ((), TREE))
        self.assertEqual(items_of(tree_of(items)), items_with())


class WhatIsNoItems(unittest.TestCase):
    def test_what_is_no_items(self):
        good = items_with()
        wrong = [value for value in values_of_all_kinds() if value != ()] + [
            0, "n0001", list(good), good[::-1], good + good[-1:], good[:1] * 2, good + (("t000201", "n"),), (good,), nested(2),
            (("n0001",),), (("n0001", "d", "d"),), (["n0001", "d"],), ("n0001",), (None,), ((1, "d"),), (("n0001", 1),), (("n0001", None),),
            (("", "d"),), (("a b", "d"),), (("a" * 14, "d"),), (("a", ""),), (("a", "b" * 14),), (("a", "b\n"),), (("%", "d"),),
            (("a", "%"),), {"n0001": "d"}, good[:3] + ((True, False),), (("a", "b"), ("a", "c")), (("b", "x"), ("a", "x")),
        ]
        for items in wrong:
            assert_refused(self, BadItems, None, wrong_keys, items)
            assert_refused(self, BadItems, None, tree_of, items)

    def test_arguments_by_name(self):
        self.assertEqual([wrong_keys(items=()), tree_of(items=(("n0001", "d"),))], [("n0001",), (("/", ("folder", None)),)])


if __name__ == "__main__":
    unittest.main()
