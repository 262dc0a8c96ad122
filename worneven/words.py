"""What several modules mean by integers, cells, page text, keys and values, names, paths and texts."""

CELLS = "0123456789abcdef"
FIGURES = "0123456789"
# All signs by their numbers from 32 on; no sign has the number 37, so a blank keeps its place.
SIGNS = " !\"#$ &'()*+,-./0123456789:;<=>?@ABCDEFGHIJKLMNOPQRSTUVWXYZ[\\]^_`abcdefghijklmnopqrstuvwxyz{|}~"
NAME_SIGNS = "abcdefghijklmnopqrstuvwxyz0123456789.-"
PAGE_CELLS = 256
EMPTY_PAGE = "f" * 256
MOST_PAGE_TEXT = 113
MOST_KEY = 13
LEAST_KEY = "!"
GREATEST_KEY = "~~~~~~~~~~~~~"
MOST_NAME = 8
MOST_TEXT = 600
MOST_LINE = 700


def is_integer(value):
    """Whether it is an int, but no bool: to Python alone True is 1."""
    return isinstance(value, int) and not isinstance(value, bool)


def is_between(value, low, high):
    """Whether it is an integer from low to high."""
    return is_integer(value) and low <= value <= high


def is_from(value, low):
    """Whether it is an integer from low on."""
    return is_integer(value) and low <= value


def has_only(text, signs):
    """Whether all characters of the string are among these signs."""
    # What is stripped off both ends stops at the first other one.
    return text.strip(signs) == ""


def number_in(word):
    """The integer from 0 on that stands in this string as Python writes it; None if none does."""
    if word == "" or not has_only(word, FIGURES):
        return None
    if word[0] == "0" and word != "0":
        return None
    return int(word)


def integer_in(word):
    """The integer that stands in this string as Python writes it; None if none does."""
    if not word.startswith("-"):
        return number_in(word)
    number = number_in(word[1:])
    return None if number is None or number == 0 else -number


def are_cells(value):
    """Whether it is a string of cells."""
    return isinstance(value, str) and has_only(value, CELLS)


def is_pattern(value):
    """Whether it is a pattern of cells by which a deed of a chip is torn."""
    return are_cells(value) and 1 <= len(value) <= PAGE_CELLS


def is_cell(value):
    """Whether it is one cell."""
    return are_cells(value) and len(value) == 1


def is_page(value):
    """Whether it is a page of cells."""
    return isinstance(value, str) and len(value) == PAGE_CELLS and are_cells(value)


def are_signs(value, least, most):
    """Whether it is a string of so many signs."""
    return isinstance(value, str) and least <= len(value) <= most and has_only(value, SIGNS)


def is_page_text(value):
    """Whether it is page text: few enough signs and line feeds."""
    return isinstance(value, str) and len(value) <= MOST_PAGE_TEXT and has_only(value, SIGNS + "\n")


def is_key(value):
    """Whether it is a key of a map."""
    return are_signs(value, 1, MOST_KEY) and " " not in value


def is_value(value):
    """Whether it is a value of a map."""
    return are_signs(value, 1, MOST_KEY)


def are_keyed(value, may_be_none):
    """Whether it is a tuple of (key, value), ascending by unlike keys; a value may be None if that is told."""
    if not isinstance(value, tuple):
        return False
    last = ""
    for row in value:
        if not isinstance(row, tuple) or len(row) != 2 or not is_key(row[0]) or row[0] <= last:
            return False
        if not is_value(row[1]) and not (may_be_none and row[1] is None):
            return False
        last = row[0]
    return True


def is_name(value):
    """Whether it is a name of a file or folder."""
    if not isinstance(value, str) or not 1 <= len(value) <= MOST_NAME:
        return False
    return has_only(value, NAME_SIGNS) and value not in (".", "..")


def is_path(value):
    """Whether it is a path: of the root folder, or of names."""
    if value == "/":
        return True
    if not isinstance(value, str) or not value.startswith("/"):
        return False
    return all([is_name(name) for name in value[1:].split("/")])


def is_text(value):
    """Whether it is the text of a file."""
    return are_signs(value, 0, MOST_TEXT)


def is_line(value):
    """Whether it is a line for a shell."""
    return are_signs(value, 0, MOST_LINE)
