"""What tests of files share: files beside a plain tree, and what a deed does to both."""

from ground_chips import wear_promised
from plain_files import PlainFiles, Refused, some_path

from worneven.chips import Chip
from worneven.errors import FlashError
from worneven.files import Files

BARE = (("/", ("folder", None)),)


def outcome(deed, *values):
    """(name, value) of the error that the deed raises; None if it returns None."""
    try:
        told = deed(*values)
    except FlashError as error:
        return type(error).__name__, error.value
    assert told is None, told
    return None


def plain_outcome(deed, *values):
    """The same of a deed of a plain tree."""
    try:
        deed(*values)
    except Refused as refused:
        return refused.name, refused.value
    return None


def told(ask, *values):
    """What a question to Files, or to a plain tree, is answered, be it an error."""
    try:
        return "told", ask(*values)
    except FlashError as error:
        return type(error).__name__, error.value
    except Refused as refused:
        return refused.name, refused.value


class Pair:
    """Files on a chip, and a plain tree beside them."""

    def __init__(self, test, blocks=16, pages=8, deeds=()):
        self.test = test
        self.chip = Chip(blocks, pages)
        self.files = Files(self.chip)
        self.plain = PlainFiles()
        for deed in deeds:
            self.done(*deed)

    def say(self, name, *values):
        """A deed of both, which must have the same outcome; it is told."""
        return self.compare((name, *values), outcome(getattr(self.files, name), *values), self.plain.do, name, *values)

    def say_all(self, deeds):
        """The same of a row of deeds done together."""
        return self.compare(deeds, outcome(self.files.together, deeds), self.plain.do_all, deeds)

    def compare(self, what, found, deed, *values):
        before = self.plain.root
        expected = plain_outcome(deed, *values)
        if found == ("Full", None) and expected is None:
            self.plain.root = before
        else:
            self.test.assertEqual(found, expected, what)
        self.test.assertEqual(self.files.tree(), self.plain.tree(), what)
        return found

    def done(self, name, *values):
        """A deed that is not refused."""
        self.test.assertIsNone(self.say(name, *values), (name, values))

    def refused(self, error, value, name, *values):
        """A deed that is refused so, and changes nothing that can be asked."""
        before, image = self.files.tree(), self.chip.image()
        self.test.assertEqual(self.say(name, *values), (error, value), (name, values))
        self.test.assertEqual((self.files.tree(), self.chip.image()), (before, image))

    def look_round(self, chance, many=4):
        """What is told of some paths; that files opened anew tell the same; and the wear."""
        paths = [path for path, _ in self.plain.rows()]
        other = Files(self.chip.copy())
        self.test.assertEqual(other.tree(), self.plain.tree())
        for path in [some_path(chance, paths) for lap in range(many)]:
            for name in ("read", "names", "look"):
                expected = told(getattr(self.plain, name), path)
                self.test.assertEqual(told(getattr(self.files, name), path), expected, (name, path))
                self.test.assertEqual(told(getattr(other, name), path), expected, (name, path))
        self.test.assertTrue(wear_promised(self.chip))
