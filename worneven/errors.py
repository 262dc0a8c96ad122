"""The errors of Worneven: each keeps what it is told as `value`."""


class FlashError(ValueError):
    """All errors of Worneven are of this kind."""

    def __init__(self, value):
        self.value = value


class BadSize(FlashError):
    """A chip can't have so many blocks, or pages a block."""


class BadFaults(FlashError):
    """These are no faults that can be told to a chip."""


class BadPlace(FlashError):
    """This is not the place of a page of the chip."""


class BadCells(FlashError):
    """This is not a page of cells."""


class NotEmpty(FlashError):
    """The page at this place is not empty."""


class Cut(FlashError):
    """There is no current, or it was cut just now."""


class BadBlock(FlashError):
    """This is not the number of a block of the chip."""


class BadFade(FlashError):
    """This cell can't fall by itself to this sign."""


class BadText(FlashError):
    """This is no text as it is asked for."""


class BadKey(FlashError):
    """This is no key."""


class BadChanges(FlashError):
    """These are no changes of a map."""


class BadSheet(FlashError):
    """This is no sheet of a map that can be written."""


class BadPlaces(FlashError):
    """These are no places for new sheets."""


class NoGround(FlashError):
    """What lies on the chip is no ground."""


class Full(FlashError):
    """There is no room."""


class BadNumber(FlashError):
    """This is no number as it is asked for."""


class BadImage(FlashError):
    """This is no image."""


class BadName(FlashError):
    """This is no name."""


class BadPart(FlashError):
    """This is not the number of a part of a text."""


class BadNode(FlashError):
    """This is no node."""


class BadValue(FlashError):
    """This is not the value of a node."""


class BadItems(FlashError):
    """These are not the items of a tree."""


class BadTree(FlashError):
    """This is no told tree."""


class BadPath(FlashError):
    """This is no path."""


class NoPath(FlashError):
    """This path is not there."""


class NotFolder(FlashError):
    """This path is that of a file."""


class There(FlashError):
    """This path is there already."""


class IsFolder(FlashError):
    """This path is that of a folder."""


class BadSpan(FlashError):
    """This place or size lies outside of the file."""


class OverQuota(FlashError):
    """This folder would use more than its quota."""


class Within(FlashError):
    """This path can't be moved or removed so."""


class NotEmptyFolder(FlashError):
    """This folder holds names."""


class BadQuota(FlashError):
    """This is no quota."""


class BadDeeds(FlashError):
    """These are no deeds that can be done together."""


class BadLine(FlashError):
    """This is no line for a shell."""


class BadScript(FlashError):
    """In this line it is no script."""


class BadPattern(FlashError):
    """This is no pattern of cells."""


class BadLines(FlashError):
    """These are no lines for a shell."""


class NothingToUndo(FlashError):
    """No line stands that could be taken back."""


class NothingToRedo(FlashError):
    """No line was taken back that could be said again."""


class BadJournal(FlashError):
    """In this line it is no journal."""
