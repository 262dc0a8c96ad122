"""Lines for a shell: which forms they have, and what they tell by their words."""

from worneven.words import integer_in, is_between, is_line, is_pattern, number_in

MOST_AHEAD = 1000000
# By first words, the deeds of files that they mean.
DEED_WORDS = {
    "mkdir": "make_folder", "put": "put", "write": "write", "trim": "cut_to", "ln": "add_name", "rm": "remove",
    "mv": "move", "quota": "quota",
}
# By first words, what stands behind them. A text is all that is left of the line.
FORMS = {
    "mkdir": ("path",), "put": ("path", "text"), "write": ("path", "number", "text"), "trim": ("path", "number"),
    "ln": ("path", "path"), "rm": ("path",), "mv": ("path", "path"), "quota": ("path", "quota"),
    "begin": (), "end": (), "drop": (), "cat": ("path",), "ls": ("path",), "stat": ("path",),
    "cut": ("ahead", "pattern"), "spoil": ("ahead", "pattern"), "on": (), "check": (), "wear": (),
}


def has_kind(word, kind):
    """Whether the word can stand where one of this kind is due."""
    if kind == "number":
        return integer_in(word) is not None
    if kind == "quota":
        return word == "none" or integer_in(word) is not None
    if kind == "ahead":
        return is_between(number_in(word), 1, MOST_AHEAD)
    # Any word may be a path, and any text a text: the files say what they refuse.
    return kind != "pattern" or is_pattern(word)


def value_in(word, kind):
    """What the word tells, which has this kind."""
    if kind in ("number", "ahead", "quota"):
        return integer_in(word)
    return word


def first_word(line):
    """The first word of the line, perhaps an empty one."""
    return line.split(" ")[0]


def words_behind(line, kinds):
    """The words behind the first one; where a text is due, the last one is all that is left."""
    if "text" in kinds:
        return line.split(" ", len(kinds))[1:]
    return line.split(" ")[1:]


def told_by(line):
    """The first word of the line and the values behind it; None if the line has no form."""
    first = first_word(line)
    if first not in FORMS:
        return None
    kinds = FORMS[first]
    words = words_behind(line, kinds)
    if len(words) != len(kinds) or not all([has_kind(word, kind) for word, kind in zip(words, kinds)]):
        return None
    return first, tuple([value_in(word, kind) for word, kind in zip(words, kinds)])


def size_told(line, word):
    """The blocks and pages of a chip that stand in the line behind this word; None if it has no such form."""
    words = line.split(" ")
    if len(words) != 3 or words[0] != word:
        return None
    blocks = number_in(words[1])
    pages = number_in(words[2])
    return (blocks, pages) if is_between(blocks, 4, 64) and is_between(pages, 4, 16) else None


def first_wrong_line(text, word, most=None):
    """The number of the first line at which it is no text of a chip's size behind this word, and of so many lines."""
    if not isinstance(text, str):
        return 0
    first, *lines = text.split("\n")
    if size_told(first, word) is None:
        return 1
    for number, line in enumerate(lines, 2):
        if not is_line(line) or (most is not None and number > most):
            return number
    return None
