"""What several modules mean by an integer, by cells, by a page and by page text."""

CELLS = "0123456789abcdef"
PAGE_CELLS = 256
EMPTY_PAGE = "f" * 256
MOST_PAGE_TEXT = 113


def is_integer(value):
    """Whether it is an int, but no bool: to Python alone True is 1."""
    return isinstance(value, int) and not isinstance(value, bool)


def is_between(value, low, high):
    """Whether it is an integer from low to high."""
    return is_integer(value) and low <= value <= high


def are_cells(value):
    """Whether it is a string of cells."""
    return isinstance(value, str) and all([sign in CELLS for sign in value])


def is_cell(value):
    """Whether it is one cell."""
    return are_cells(value) and len(value) == 1


def is_page(value):
    """Whether it is a page of cells."""
    return isinstance(value, str) and len(value) == PAGE_CELLS and are_cells(value)


def is_sign_number(number):
    """Whether a sign has this number in ASCII: 37, the percent sign, is none."""
    return 32 <= number <= 126 and number != 37


def is_page_text(value):
    """Whether it is page text: few enough signs and line feeds."""
    if not isinstance(value, str) or len(value) > MOST_PAGE_TEXT:
        return False
    return all([sign == "\n" or is_sign_number(ord(sign)) for sign in value])
