"""Sealed pages as the document tells them, in its own words, and what becomes of their cells."""

SIGNS = "0123456789abcdef"
# All signs of page text, and the line feed.
LETTERS = "".join(chr(number) for number in range(32, 127) if number != 37) + "\n"


def plain_sums(cells):
    lack = {place: 15 - int(cells[place - 1], 16) for place in range(1, 227)}
    return (
        sum(lack[place] for place in lack),
        sum(lack[place] * place for place in lack),
        sum(lack[place] * place * place for place in lack),
    )


def in_sixteens(number, cells):
    told = ""
    for lap in range(cells):
        told = SIGNS[number % 16] + told
        number = number // 16
    return told


def with_sums(body):
    """The page of any 226 cells with its sums behind them, whether they tell a text or not."""
    told = body
    for number, cells in zip(plain_sums(body), (3, 5, 7)):
        as_it_is = in_sixteens(number, cells)
        told = told + as_it_is + "".join(SIGNS[15 - SIGNS.index(cell)] for cell in as_it_is)
    return told


def plain_sealed(text):
    body = "".join(in_sixteens(ord(letter), 2) for letter in text)
    return with_sums(body + "f" * (226 - len(body)))


def with_cell(cells, at, sign):
    return cells[:at] + sign + cells[at + 1:]


def expected(page, text, cells):
    """What opened is to tell of cells that came of this text's sealed page by raisings and falls."""
    unlike = [at for at in range(256) if cells[at] != page[at]]
    if cells == "f" * 256:
        return ("empty",)
    if not unlike:
        return ("whole", text)
    if len(unlike) == 1 and cells[unlike[0]] < page[unlike[0]]:
        return ("mended", text, unlike[0])
    return ("torn",)


def some_text(chance, most=113):
    return "".join(chance.choices(LETTERS, k=chance.randint(0, most)))
