"""Section 8: keys and values of nodes, parts of texts, and their refusals."""

import unittest

from refusals import assert_refused, nested, values_of_all_kinds

from worneven.errors import BadName, BadNode, BadNumber, BadPart, BadText, BadValue
from worneven.nodes import name_key, node_in, node_key, node_value, part_key, parts

NO_INTEGERS = values_of_all_kinds() + ["4", "", "a", "0001"]
NO_NAMES = values_of_all_kinds() + [
    0, 1, "", ".", "..", "a" * 9, "A", "aB", "a/b", "/", "/a", "a b", " ", "a_", "~", "a\n", "\n", "\u00e9", "\u0661", "%", ("a",),
]
NAMES = ("a", "z", "0", "9", "-", "--", "...", ".a", "a.", "a..", "..a", ".-", "a" * 8, "." * 8, "-" * 8, "a.txt", "x-1.y")
TEXT = "".join(chr(number) for number in range(32, 127) if number != 37)


class Keys(unittest.TestCase):
    def test_keys(self):
        for number in (1, 9, 10, 99, 100, 1000, 9999):
            four = ("000" + str(number))[-4:]
            self.assertEqual(node_key(number), "n" + four)
            for name in NAMES:
                self.assertEqual(name_key(number, name), "e" + four + name)
            for part in (0, 1, 9, 10, 49):
                self.assertEqual(part_key(number, part), "t" + four + ("0" + str(part))[-2:])

    def test_numbers(self):
        for number in NO_INTEGERS + [0, -1, 10000, 10 ** 11]:
            assert_refused(self, BadNumber, number, node_key, number)
            assert_refused(self, BadNumber, number, name_key, number, "a")
            assert_refused(self, BadNumber, number, part_key, number, 0)
            assert_refused(self, BadNumber, number, name_key, number, "/")
            assert_refused(self, BadNumber, number, part_key, number, True)

    def test_names(self):
        for name in NO_NAMES:
            assert_refused(self, BadName, name, name_key, 1, name)
            assert_refused(self, BadName, name, name_key, 9999, name)

    def test_parts(self):
        for part in NO_INTEGERS + [-1, 50, 99, 10 ** 11]:
            assert_refused(self, BadPart, part, part_key, 1, part)

    def test_arguments_by_name(self):
        self.assertEqual([node_key(number=7), name_key(name="a", number=7), part_key(part=3, number=7)], ["n0007", "e0007a", "t000703"])
        self.assertEqual([node_value(node=("folder", 0)), node_in(value="d 0"), parts(text="a")], ["d 0", ("folder", 0), ("a",)])


class Values(unittest.TestCase):
    def test_values_are_told_again(self):
        for quota in (None, 0, 1, 10, 999999):
            self.assertEqual(node_in(node_value(("folder", quota))), ("folder", quota))
        for size in (0, 1, 12, 599, 600):
            for links in (1, 2, 98, 99):
                self.assertEqual(node_value(("file", size, links)), "f " + str(size) + " " + str(links))
                self.assertEqual(node_in(node_value(("file", size, links))), ("file", size, links))
        self.assertEqual([node_value(("folder", None)), node_value(("folder", 0))], ["d", "d 0"])

    def test_what_is_no_node(self):
        wrong = values_of_all_kinds() + [0, "d", "folder", ("folder",), ("file", 1), ("file",), ("folder", 1, 2), ("file", 1, 2, 3), nested(3)]
        wrong += [["folder", None], ["file", 1, 1], ("Folder", None), ("d", None), ("f", 1, 1), (None, None), ("folder", 1, 1)]
        wrong += [("folder", quota) for quota in NO_INTEGERS + [-1, 1000000, 10 ** 11] if quota is not None]
        wrong += [("file", size, 1) for size in NO_INTEGERS + [-1, 601, 10 ** 11]]
        wrong += [("file", 0, links) for links in NO_INTEGERS + [-1, 0, 100, 10 ** 11]]
        for node in wrong:
            assert_refused(self, BadNode, node, node_value, node)

    def test_what_is_no_value(self):
        wrong = values_of_all_kinds() + [0, 1, "", "D", "F 1 1", "d ", " d", "dd", "d\n", "d 1 ", "d  1", "d -1", "d +1", "d 01", "d 00"]
        wrong += ["d 1000000", "d 1.0", "d one", "d 1 1", "d none", "d None", "d 1_0", "d \u0661", "\u00b9", "d1", "d\t1", "d 1e3"]
        wrong += ["f", "f 1", "f  1", "f 1 ", "f 1 0", "f 1 100", "f 601 1", "f 01 1", "f 1 01", "f 1 1 1", "f 1 1 ", "f -1 1", "f 1 -1"]
        wrong += [" f 1 1", "f 1  1", "f 1\n1", "f a 1", "f 1 a", "0001", "d " + "9" * 12, "f 1 " + "1" * 40, "d " + "1" * 4000, ["d"]]
        wrong += [("d",), ("folder", None), b"d"]
        for value in wrong:
            assert_refused(self, BadValue, value, node_in, value)


class Parts(unittest.TestCase):
    def test_parts_of_texts_of_all_lengths(self):
        for size in list(range(40)) + [599, 600]:
            text = (TEXT * 8)[:size]
            told = parts(text)
            self.assertIs(type(told), tuple)
            self.assertEqual("".join(told), text)
            self.assertEqual([len(part) for part in told[:-1]], [12] * (len(told) - 1 if told else 0))
            self.assertEqual(len(told), -(-size // 12))
            self.assertTrue(all(1 <= len(part) <= 12 for part in told))

    def test_parts_at_the_edges(self):
        for text, told in (
            ("", ()), ("a", ("a",)), ("b" * 11, ("b" * 11,)), ("c" * 12, ("c" * 12,)), ("d" * 13, ("d" * 12, "d")),
            (" " * 13, (" " * 12, " ")), ("e" * 600, ("e" * 12,) * 50),
        ):
            self.assertEqual(parts(text), told)

    def test_what_is_no_text(self):
        for text in values_of_all_kinds() + [0, "%", "a\n", "\n", "\t", "a" * 601, "a" * 4000, "\x7f", "\x1f", "\u20ac", ("a",), ["a"], b"a"]:
            assert_refused(self, BadText, text, parts, text)


if __name__ == "__main__":
    unittest.main()
