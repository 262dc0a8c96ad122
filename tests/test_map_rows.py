"""Section 6: many rows of changes beside a plain dict, each map read sheet by sheet, the elder ones, too."""

import random
import unittest

from map_pages import Pages, changed_dict, sorted_items
from reading import plain_sheet

from worneven.maps import map_anew, map_get, map_items, map_places, map_with

SHORT = [chr(number) for number in range(33, 127) if number != 37]
LONG = ["key." + "x" * 7 + f"{number:02d}" for number in range(60)]
MIXED = ["a", "a!", "aa", "b" * 13, "~" * 13, "!", "!" * 13, "-.", "e0001name", "n0001"] + SHORT[::4] + LONG[::5]
VALUES = ["v", " ", "v" * 13, " " * 13, "a b", "~" * 13, "-", "0"]


def some_changes(chance, keys, held, grows, most):
    changes = {}
    for lap in range(chance.randint(0, most)):
        if held and chance.random() > grows:
            changes[chance.choice(sorted(held))] = None
        else:
            changes[chance.choice(keys)] = chance.choice(VALUES + [None])
    return tuple(sorted(changes.items()))


class MapRows(unittest.TestCase):
    def behind(self, pages, root, held, changes):
        """One row of changes, looked at from all sides: the new map's root and its dict."""
        after = changed_dict(held, changes)
        sheets, told = map_with(pages.look, root, changes)
        if after == held:
            self.assertEqual((sheets, told), ((), root))
        self.assertLessEqual(len(sheets), len(after))
        new = pages.keep((sheets, told))
        self.assertEqual(pages.items(new), sorted_items(after))
        self.assertLessEqual(len(set(pages.places(new)) - set(pages.places(root))), len(sheets))
        self.all_new_sheets_are_the_maps(pages, sheets, new, root)
        self.only_what_must_be_is_made_anew(pages, root, new, held, changes)
        return new, after

    def all_new_sheets_are_the_maps(self, pages, sheets, new, root):
        made = [place for place in pages.places(new) if place not in pages.places(root)]
        self.assertEqual(len(made), len(sheets))

    def only_what_must_be_is_made_anew(self, pages, root, new, held, changes):
        """What the brackets behind the bold sentence say of leaves."""
        stays = pages.leaves(new)
        leaves = [place for place in pages.places(root) if place in pages.leaves(root)]
        altered = [(key, value) for key, value in changes if held.get(key) != value]
        alone, made = 0, 0
        for at, place in enumerate(leaves):
            keys = [key for key, _ in plain_sheet(pages.texts[place])[1]]
            low = keys[0] if at else ""
            end = plain_sheet(pages.texts[leaves[at + 1]])[1][0][0] if at + 1 < len(leaves) else "~" * 14
            falling = [row for row in altered if low <= row[0] < end]
            left = changed_dict({key: held[key] for key in keys}, falling)
            alone += bool(falling) and len(left) == 1
            made += not falling and place not in stays
        self.assertLessEqual(made, alone)

    def asked_in_all_ways(self, chance, pages, root, held, keys):
        for key in keys:
            self.assertEqual(map_get(pages.look, root, key), held.get(key))
        for lap in range(4):
            low, high = chance.choice(keys), chance.choice(keys)
            expected = tuple(row for row in sorted_items(held) if low <= row[0] <= high)
            self.assertEqual(map_items(pages.look, root, low, high), expected)
        self.assertEqual(map_items(pages.look, root, "!", "~" * 13), sorted_items(held))
        told = map_places(pages.look, root)
        self.assertIs(type(told), tuple)
        self.assertEqual((len(told), set(told)), (len(set(told)), set(pages.places(root))))
        for at, place in enumerate(told):
            kind, entries = plain_sheet(pages.texts[place])
            for _, child in entries if kind == "fork" else ():
                self.assertIn(child, told[:at])
        self.assertEqual(told[-1:], () if root is None else (root,))

    def made_anew(self, pages, root, held):
        told = map_anew(pages.look, root)
        self.assertEqual(map_anew(pages.look, root), told)
        new = pages.keep(told)
        self.assertEqual(pages.items(new), sorted_items(held))
        self.assertEqual(set(pages.places(new)) & set(pages.places(root)), set())
        self.assertEqual(len(told[0]), len(pages.places(new)))
        sizes = [len(entries) for kind, entries in told[0] if kind == "leaf"]
        self.assertEqual(sizes[:-2], [4] * len(sizes[:-2]))
        self.assertEqual(sum(sizes), len(held))

    def row(self, seed, keys, laps, most):
        chance = random.Random(seed)
        pages = Pages(chance)
        root, held, elder = None, {}, []
        for lap in range(laps):
            grows = 0.85 if lap < laps // 2 else 0.1
            changes = some_changes(chance, keys, held, grows, most)
            elder.append((root, held))
            root, held = self.behind(pages, root, held, changes)
            if lap % 5 == 0:
                self.asked_in_all_ways(chance, pages, root, held, keys)
                self.made_anew(pages, root, held)
        last = tuple((key, None) for key in sorted(held))
        elder.append((root, held))
        root, held = self.behind(pages, root, held, last)
        self.assertEqual((root, held), (None, {}))
        for root, held in elder:
            self.assertEqual(pages.items(root), sorted_items(held))
            self.assertEqual(map_items(pages.look, root, "!", "~" * 13), sorted_items(held))
        return max(len(held) for _, held in elder)

    def test_rows_of_few_changes(self):
        for seed in range(12):
            with self.subTest(seed=seed):
                self.assertGreater(self.row(seed, (SHORT, LONG, MIXED)[seed % 3], 120, 3), 15)

    def test_rows_of_many_changes(self):
        for seed in range(12):
            with self.subTest(seed=seed):
                self.assertGreater(self.row(100 + seed, (SHORT, LONG, MIXED)[seed % 3], 40, 24), 20)

    def test_one_key_behind_the_other_comes_and_goes(self):
        orders = [list(SHORT), SHORT[::-1], SHORT[::2] + SHORT[1::2]]
        random.Random(1).shuffle(orders[2])
        for coming in orders:
            for going in orders:
                pages, root, held = Pages(), None, {}
                for key in coming[:40]:
                    root, held = self.behind(pages, root, held, ((key, "v"),))
                for key in [key for key in going if key in held]:
                    root, held = self.behind(pages, root, held, ((key, None),))
                self.assertIsNone(root)

    def test_all_sizes_and_all_that_may_go_of_them(self):
        keys = [f"k{number:02d}" for number in range(22)]
        for many in range(23):
            held = {key: "v" for key in keys[:many]}
            for low in range(0, many + 1):
                for high in range(low, many + 1):
                    pages = Pages()
                    root = pages.keep(map_with(pages.look, None, sorted_items(held)))
                    going = tuple((key, None) for key in keys[low:high])
                    self.behind(pages, root, held, going)

    def test_maps_made_anew_of_all_sizes(self):
        for many in range(90):
            held = {f"k{number:02d}": str(number) for number in range(many)}
            pages = Pages()
            root = pages.keep(map_with(pages.look, None, sorted_items(held)))
            self.made_anew(pages, root, held)

    def test_a_map_of_thousands_of_keys(self):
        held = {f"k{number:04d}": "v" for number in range(3000)}
        pages = Pages()
        root = pages.keep(map_with(pages.look, None, sorted_items(held)))
        self.assertEqual(pages.items(root), sorted_items(held))
        sheets, _ = map_with(pages.look, root, (("k1234", "w"),))
        self.assertLess(len(sheets), 10)
        self.assertEqual(map_get(pages.look, root, "k2999"), "v")


if __name__ == "__main__":
    unittest.main()
