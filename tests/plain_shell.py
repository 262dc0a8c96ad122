"""What a shell is to answer while nothing is cut or spoiled, by a plain tree; and lines drawn for it."""

import re

from plain_files import LETTERS, PlainFiles, Refused, some_deed

NUMBER = r"(?:0|-?[1-9][0-9]*)"
WORD = r"[^ ]*"
FORMS = {
    "make_folder": rf"mkdir ({WORD})", "put": rf"put ({WORD}) (.*)", "write": rf"write ({WORD}) ({NUMBER}) (.*)", "cut_to": rf"trim ({WORD}) ({NUMBER})",
    "add_name": rf"ln ({WORD}) ({WORD})", "remove": rf"rm ({WORD})", "move": rf"mv ({WORD}) ({WORD})", "quota": rf"quota ({WORD}) ({NUMBER}|none)",
}
WORDS = {
    "make_folder": "mkdir", "put": "put", "write": "write", "cut_to": "trim", "add_name": "ln", "remove": "rm", "move": "mv", "quota": "quota",
}


def deed_in(line):
    """The deed that the line tells; None if it tells none."""
    for name, form in FORMS.items():
        told = re.fullmatch(form, line)
        if told:
            values = list(told.groups())
            if name in ("write", "cut_to", "quota"):
                values[1] = None if values[1] == "none" else int(values[1])
            return (name, *values)
    return None


class PlainShell:
    """A plain tree, used by lines."""

    def __init__(self):
        self.plain = PlainFiles()
        self.noted = None

    def say(self, line):
        try:
            return self.answer(line)
        except Refused as refused:
            return "? " + refused.name

    def answer(self, line):
        deed = deed_in(line)
        if deed is not None and self.noted is not None:
            if len(self.noted) == 20:
                return "?"
            self.noted.append(deed)
            return "noted"
        if deed is not None:
            self.plain.do(*deed)
            return "ok"
        if line == "begin" and self.noted is None:
            self.noted = []
            return "ok"
        if line in ("end", "drop") and self.noted is not None:
            noted, self.noted = self.noted, None
            if line == "end":
                self.plain.do_all(noted)
            return "ok"
        return self.told(line)

    def told(self, line):
        word, _, path = line.partition(" ")
        if line == "check":
            return "right"
        if word not in ("cat", "ls", "stat") or " " in path or line == word:
            return "?"
        if word == "cat":
            return self.plain.read(path)
        if word == "ls":
            return " ".join(self.plain.names(path))
        told = self.plain.look(path)
        if told[0] == "file":
            return f"file {told[1]} {len(told[2])}"
        return f"folder {told[1]} {'none' if told[2] is None else told[2]} {told[3]}"


def line_of(deed):
    """The line that tells a deed, if it can be told: paths without blanks, numbers that are integers."""
    name, *values = deed
    if name == "quota" and values[1] is None:
        values[1] = "none"
    if any(not isinstance(value, (str, int)) or isinstance(value, bool) for value in values):
        return None
    line = " ".join([WORDS[name]] + [str(value) for value in values])
    return line if len(line) <= 700 and set(line) <= set(LETTERS) else None


def some_line(chance, shell):
    """A line of any kind, most of them right where it stands."""
    if shell.noted is not None and chance.random() < 0.3:
        return chance.choice(("end", "end", "end", "drop"))
    draw = chance.random()
    paths = [path for path, _ in shell.plain.rows()]
    if draw < 0.6:
        return line_of(some_deed(chance, shell.plain)) or "rm /"
    if draw < 0.72:
        return chance.choice(("cat ", "ls ", "stat ")) + chance.choice(paths + ["", "/no", "/a/b/c", "x", "/a "])
    if draw < 0.8:
        return chance.choice(("begin", "end", "drop", "check"))
    return chance.choice((
        "", " ", "cat", "ls", "put /a", "put  /a x", " put /a x", "write /a 0", "write /a 00 x", "write /a +1 x", "trim /a", "trim /a 1 ", "trim /a -0",
        "mkdir /a b", "mkdir", "quota /", "quota / None", "quota / 01", "rm", "rm ", "mv /a", "ln /a /b /c", "Put /a x", "begin ", " end", "on", "check x",
        "put /a ", "put /b    ", "write /a 0 ", "write  0 x", "trim  0", "trim /a -1", "quota / -5", "ln  ", "mv /a ", "help",
    ))
