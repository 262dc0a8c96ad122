"""Section 5: sums, sealed pages, and what opened tells of them."""

import random
import unittest

from refusals import assert_refused, values_of_all_kinds
from sealing import LETTERS, SIGNS, expected, plain_sealed, plain_sums, some_text, with_cell, with_sums

from worneven.codes import opened, sealed, sums
from worneven.errors import BadCells, BadText

EMPTY = "f" * 256
PAGE = "0123456789abcdef" * 16
TEXTS = (
    "", "a", "\n", " ", "~", "o", "two\nlines", "l\na\none\nb\ntwo", "root\n1\n-", "A" * 113, "~" * 113, "\n" * 113,
    "o" * 113, " " * 112, "ooo", "o\no", LETTERS[:96], LETTERS[40:] + LETTERS[:40],
)
NO_CELLS = values_of_all_kinds() + [
    0, 255, "", "f", "f" * 255, "f" * 257, "F" * 256, "g" * 256, " " * 256, "f" * 255 + "\n", "g" + "f" * 255,
    "0" * 255 + ":", "0" * 255 + "/", "`" + "0" * 255, PAGE.upper(), "f" * 255 + "A",
]


class Sums(unittest.TestCase):
    def test_sums_of_any_page(self):
        chance = random.Random(5)
        pages = [EMPTY, "0" * 256, PAGE, PAGE[::-1]] + ["".join(chance.choices(SIGNS, k=256)) for lap in range(50)]
        for page in pages:
            self.assertEqual(sums(page), plain_sums(page))

    def test_each_cell_of_the_text_counts_by_its_place(self):
        for at in range(226):
            for sign in "0ae":
                lack = 15 - int(sign, 16)
                told = sums(with_cell(EMPTY, at, sign))
                self.assertEqual(told, (lack, lack * (at + 1), lack * (at + 1) * (at + 1)))

    def test_the_cells_behind_the_text_do_not_count(self):
        for at in range(226, 256):
            self.assertEqual(sums(with_cell(EMPTY, at, "0")), (0, 0, 0))

    def test_the_greatest_sums(self):
        self.assertEqual(sums("0" * 256), (3390, 384765, 15 * (226 * 227 * 453 // 6)))

    def test_what_is_no_page_of_cells(self):
        for cells in NO_CELLS:
            assert_refused(self, BadCells, cells, sums, cells)


class Sealed(unittest.TestCase):
    def test_sealed_pages(self):
        for text in TEXTS:
            self.assertEqual(sealed(text), plain_sealed(text))
            self.assertEqual((len(sealed(text)), sums(sealed(text))), (256, plain_sums(sealed(text))))

    def test_each_letter(self):
        self.assertEqual(len(LETTERS), 95)
        for letter in LETTERS:
            for text in (letter, letter * 113, "a" + letter, letter + "a"):
                self.assertEqual(sealed(text), plain_sealed(text))
                self.assertEqual(opened(sealed(text)), ("whole", text))

    def test_some_texts(self):
        chance = random.Random(7)
        for lap in range(200):
            text = some_text(chance)
            page = sealed(text)
            self.assertEqual(page, plain_sealed(text))
            self.assertEqual(opened(page), ("whole", text))

    def test_what_is_no_text_of_a_page(self):
        for text in ("%", "a%", "%" * 113, "\t", "a\tb", "a" * 114, "\n" * 114, "a" * 113 + "%", "a" * 112 + "\t"):
            assert_refused(self, BadText, text, sealed, text)
        for text in ("a" * 200, "a" * 4000, "\r", "\x00", "\x1f", "\x7f", "\x80", "e\u0301", "\u20ac"):
            assert_refused(self, BadText, text, sealed, text)
        for text in values_of_all_kinds() + [0, 97, ["a"], ("a",), b"a"]:
            assert_refused(self, BadText, text, sealed, text)

    def test_the_edges_of_a_text(self):
        for text in ("", "a", "a" * 112, "a" * 113, " " * 113, "\n", "\n\n", "~", "$&"):
            self.assertEqual(opened(sealed(text)), ("whole", text))


class Whole(unittest.TestCase):
    def test_an_empty_page(self):
        self.assertEqual(opened(EMPTY), ("empty",))
        for at in range(256):
            self.assertEqual(opened(with_cell(EMPTY, at, "e")), ("torn",))

    def test_what_is_no_page_of_cells(self):
        for cells in NO_CELLS:
            assert_refused(self, BadCells, cells, opened, cells)

    def test_right_sums_do_not_make_a_text(self):
        number = {letter: f"{ord(letter):02x}" for letter in LETTERS}
        bodies = ["25", "6125", "2561", "09", "61096f", "7f", "80", "fe", "ef", "ff61", "61ffff61", "00", "1f", "0b"]
        bodies += ["6f" * 112 + "25", "f" * 225 + "0", "f" * 224 + "61", "61f6", "f6", number["a"] + "0d"]
        for body in bodies:
            page = with_sums(body + "f" * (226 - len(body)))
            self.assertEqual(opened(page), ("torn",), body)

    def test_a_page_that_lacks_a_text_is_not_mended_into_none(self):
        for body in ("25", "6109", "7f", "ff61"):
            page = with_sums(body + "f" * (226 - len(body)))
            for at in range(226):
                if at >= len(body) or body[at] != "0":
                    told = opened(with_cell(page, at, f"{int(page[at], 16) - 1:x}"))
                    self.assertEqual(told, ("torn",), (body, at))

    def test_sums_that_are_not_those_of_the_text(self):
        for text in TEXTS:
            page, other = sealed(text), sealed(text + "b" if len(text) < 113 else text[1:])
            for at, behind in ((226, 232), (232, 242), (242, 256), (229, 232), (226, 229)):
                mixed = page[:at] + other[at:behind] + page[behind:]
                self.assertEqual(opened(mixed), expected(page, text, mixed))


class Fallen(unittest.TestCase):
    def test_each_cell_fallen_by_one_and_by_as_much_as_can_be(self):
        for text in TEXTS:
            page = sealed(text)
            for at in range(256):
                worth = int(page[at], 16)
                for fallen in {0, worth // 2, worth - 1} - {worth, -1}:
                    cells = with_cell(page, at, SIGNS[fallen])
                    self.assertEqual(opened(cells), ("mended", text, at), (text, at, fallen))

    def test_each_cell_fallen_to_any_lesser_sign(self):
        text = "root\n120\n37"
        page = sealed(text)
        for at in range(256):
            for sign in SIGNS[:int(page[at], 16)]:
                self.assertEqual(opened(with_cell(page, at, sign)), ("mended", text, at))

    def test_one_cell_raised_by_any_much(self):
        for text in TEXTS:
            page = sealed(text)
            for at in range(256):
                for sign in SIGNS[int(page[at], 16) + 1:]:
                    self.assertEqual(opened(with_cell(page, at, sign)), ("torn",), (text, at, sign))

    def test_two_cells_fallen(self):
        chance = random.Random(11)
        for text in TEXTS:
            page = sealed(text)
            able = [at for at in range(256) if page[at] != "0"]
            for lap in range(150):
                cells = page
                for at in chance.sample(able, 2):
                    cells = with_cell(cells, at, chance.choice(SIGNS[:int(page[at], 16)]))
                self.assertEqual(opened(cells), ("torn",))

    def test_two_cells_that_leave_the_first_sums_alike(self):
        text = "a" * 113
        page = sealed(text)
        for at in range(0, 222, 7):
            for by in (1, 2, 3):
                cells = with_cell(with_cell(page, 224, SIGNS[6 + by]), at, SIGNS[int(page[at], 16) - 1])
                self.assertEqual(opened(cells), ("torn",))

    def test_the_sign_that_is_none_is_no_way_to_fall(self):
        page = sealed("5")
        self.assertEqual(opened("2" + page[1:]), ("mended", "5", 0))
        self.assertEqual(opened("25" + sealed("E")[2:]), ("mended", "E", 0))


class Raised(unittest.TestCase):
    def raised(self, chance, page, many):
        cells = page
        for at in chance.sample(range(256), many):
            cells = with_cell(cells, at, chance.choice(SIGNS[int(cells[at], 16):]))
        return cells

    def fallen(self, chance, page, cells):
        """One cell fell: ahead of the raisings, or behind them."""
        at = chance.choice([at for at in range(256) if cells[at] != "0"])
        return with_cell(cells, at, chance.choice(SIGNS[:int(cells[at], 16)]))

    def told(self, text, page, cells):
        self.assertEqual(opened(cells), expected(page, text, cells))

    def test_raised_anyhow_with_and_without_a_cell_fallen(self):
        chance = random.Random(13)
        for lap in range(1500):
            text = some_text(chance, chance.choice((0, 1, 2, 5, 30, 113)))
            page = sealed(text)
            cells = self.raised(chance, page, chance.choice((0, 1, 1, 2, 3, 10, 100, 256)))
            self.told(text, page, cells)
            self.told(text, page, self.fallen(chance, page, cells))
            first = self.fallen(chance, page, page)
            self.told(text, page, self.raised(chance, first, chance.choice((0, 1, 2, 3, 200))))

    def test_raised_to_what_another_text_has(self):
        chance = random.Random(17)
        for lap in range(800):
            text = some_text(chance, chance.choice((1, 2, 5, 113)))
            near = list(text)
            if near:
                near[chance.randrange(len(near))] = chance.choice(LETTERS)
            other = "".join(near) if chance.randrange(2) else some_text(chance)
            page, aim = sealed(text), sealed(other)
            cells = "".join(max(cell, wish) for cell, wish in zip(page, aim))
            self.told(text, page, cells)
            less = [at for at in range(256) if aim[at] < cells[at]]
            for at in less[:8]:
                self.told(text, page, with_cell(cells, at, aim[at]))

    def test_torn_by_patterns_as_a_chip_tears(self):
        chance = random.Random(19)
        for lap in range(400):
            text = some_text(chance)
            page = sealed(text)
            pattern = "".join(chance.choices(SIGNS, k=chance.choice((1, 2, 3, 16, 255, 256)))) * 256
            cells = "".join(max(cell, over) for cell, over in zip(page, pattern))
            self.told(text, page, cells)
            self.told(text, page, self.fallen(chance, page, cells))
        self.told("a", sealed("a"), EMPTY)
        for at in range(256):
            half = sealed("half")
            self.told("half", half, half[:at] + EMPTY[at:])
            self.told("half", half, EMPTY[:at] + half[at:])

    def test_a_page_of_f_but_for_one_fallen_cell_is_torn(self):
        for sign in SIGNS[:15]:
            for at in (0, 1, 225, 226, 255):
                self.assertEqual(opened(with_cell(EMPTY, at, sign)), ("torn",))

    def test_of_two_sealed_pages_each_is_greater_at_two_cells_at_least(self):
        chance = random.Random(23)
        pages = [sealed(text) for text in TEXTS] + [sealed(letter) for letter in LETTERS]
        pages += [sealed(some_text(chance, 3)) for lap in range(60)]
        for page in pages:
            for other in pages:
                if page != other:
                    self.assertGreaterEqual(len([at for at in range(256) if page[at] > other[at]]), 2)


class InBrackets(unittest.TestCase):
    def test_what_stands_behind_the_examples_of_section_5(self):
        page = sealed("a")
        self.assertEqual(sums(page), (23, 9 + 28, 9 + 56))
        self.assertEqual(sums("60" + page[2:]), (24, 39, 69))
        self.assertEqual(opened("60" + page[2:]), ("mended", "a", 1))


if __name__ == "__main__":
    unittest.main()
