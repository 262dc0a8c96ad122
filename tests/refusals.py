"""What the tests of refusals share: values of all kinds, and a look at the error and its value."""

from worneven.chips import Chip
from worneven.errors import FlashError


def nested(depth):
    value = ()
    for level in range(depth):
        value = (value, level)
    return value


def values_of_all_kinds():
    """Values that are no integer, no string of cells and no text of a page."""
    return [
        None, True, False, [], [0], ["f" * 256], {}, {0: "f" * 256}, (), (0,), ("f" * 256,), ((), (True, None)),
        nested(30), Chip(4, 4), (Chip(4, 4), [1]), {"place": Chip(4, 4)},
    ]


def same(one, other):
    """Whether both are alike, also in the kinds of what they hold: True is not 1."""
    if type(one) is not type(other):
        return False
    if isinstance(one, (tuple, list)):
        return len(one) == len(other) and all(same(*pair) for pair in zip(one, other))
    if isinstance(one, dict):
        return same(list(one.items()), list(other.items()))
    return one == other


def assert_refused(test, error, value, deed, *arguments):
    """The deed raises just this error, with just this value."""
    with test.assertRaises(FlashError) as caught:
        deed(*arguments)
    told = caught.exception
    test.assertIs(type(told), error, f"{arguments!r:.200}")
    test.assertTrue(same(told.value, value), f"{told.value!r:.200} is not {value!r:.200}")


def seen(chip):
    """All that can be asked of a chip without a deed."""
    pages = range(chip.blocks * chip.pages)
    return (
        chip.blocks, chip.pages, chip.wear, chip.bad, chip.done, chip.cuts, chip.is_on,
        chip.image(), tuple(chip.read(place) for place in pages),
    )


def assert_unchanged_by_refusal(test, chip, error, value, deed, *arguments):
    """The deed is refused so, and the chip is as it was in all that can be asked."""
    twin, before = chip.copy(), seen(chip)
    assert_refused(test, error, value, deed, *arguments)
    test.assertTrue(same(seen(chip), before))
    test.assertTrue(chip == twin)
