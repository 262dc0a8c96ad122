"""A code by which a page is exactly one of empty, whole, mended and torn."""

from worneven.errors import BadCells, BadText
from worneven.words import CELLS, EMPTY_PAGE, PAGE_CELLS, SIGNS, is_page, is_page_text

TEXT_CELLS = 226
# What each cell lacks of f.
LACKS = {
    "0": 15, "1": 14, "2": 13, "3": 12, "4": 11, "5": 10, "6": 9, "7": 8,
    "8": 7, "9": 6, "a": 5, "b": 4, "c": 3, "d": 2, "e": 1, "f": 0,
}


def sums_of(body):
    """The three sums of what surely are the cells 0 to 225 of a page."""
    first = 0
    second = 0
    third = 0
    # What is f behind all else lacks nothing.
    for place, cell in enumerate(body.rstrip("f"), 1):
        lack = LACKS[cell]
        first += lack
        second += lack * place
        third += lack * place * place
    return first, second, third


def sums(cells):
    """The three sums of what the cells 0 to 225 lack of f."""
    if not is_page(cells):
        raise BadCells(cells)
    return sums_of(cells[:TEXT_CELLS])


def twice(cells):
    """A sum's cells, and then each of them taken from f: a raised cell is unlike in one of both."""
    return cells + "".join([CELLS[LACKS[cell]] for cell in cells])


def page_of(text):
    """The sealed page of what surely is page text."""
    body = "".join([f"{ord(sign):02x}" for sign in text])
    body = body + "f" * (TEXT_CELLS - len(body))
    first, second, third = sums_of(body)
    return body + twice(f"{first:03x}") + twice(f"{second:05x}") + twice(f"{third:07x}")


def sealed(text):
    """The sealed page of the text."""
    if not is_page_text(text):
        raise BadText(text)
    return page_of(text)


def sign_of(number):
    """The sign or line feed of this number in ASCII; None if neither has it."""
    if number == 10:
        return "\n"
    return SIGNS[number - 32] if 32 <= number <= 126 and number != 37 else None


def text_in(cells):
    """The text that the cells tell up to the first pair ff; None if a pair ahead of it tells no sign."""
    signs = []
    for at in range(0, TEXT_CELLS, 2):
        pair = cells[at:at + 2]
        if pair == "ff":
            break
        sign = sign_of(int(pair, 16))
        if sign is None:
            return None
        signs.append(sign)
    return "".join(signs)


def lifted(cells):
    """The page with that cell lifted which fell, if its sums are right and one cell of its text fell."""
    first, second, _ = sums_of(cells[:TEXT_CELLS])
    by = first - int(cells[226:229], 16)
    if by < 1:
        return cells
    # One cell that is less by so much makes the second sum greater by that times its place.
    at = (second - int(cells[232:237], 16)) // by - 1
    if not 0 <= at < TEXT_CELLS:
        return cells
    lack = LACKS[cells[at]] - by
    if lack < 0:
        return cells
    return cells[:at] + CELLS[15 - lack] + cells[at + 1:]


def told_by(cells, right):
    """What the cells are by the text in these right ones, whole or mended; None if neither."""
    text = text_in(right)
    if text is None:
        return None
    # What stands behind the text, and whether the sums are right, only its sealed page can tell.
    page = page_of(text)
    if cells == page:
        return "whole", text
    unlike = [at for at in range(PAGE_CELLS) if cells[at] != page[at]]
    if len(unlike) == 1 and cells[unlike[0]] < page[unlike[0]]:
        return "mended", text, unlike[0]
    return None


def opened(cells):
    """What became of a page: empty, whole, mended or torn."""
    if not is_page(cells):
        raise BadCells(cells)
    if cells == EMPTY_PAGE:
        return ("empty",)
    # The cell that fell stands either behind the text, which is right as it is then, or in it.
    told = told_by(cells, cells)
    if told is None:
        told = told_by(cells, lifted(cells))
    return ("torn",) if told is None else told


def text_told(cells):
    """The text of what surely is a page of cells, whole or mended; None if it is neither."""
    told = opened(cells)
    return told[1] if told[0] in ("whole", "mended") else None
