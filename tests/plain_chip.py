"""A chip as the document tells it, cell by cell, in integers: what a Chip is compared with."""


class Told(Exception):
    """What an error of the document would be: its name and value."""

    def __init__(self, name, value):
        super().__init__(name, value)
        self.name = name
        self.value = value


class PlainChip:
    def __init__(self, blocks, pages, faults):
        self.blocks = blocks
        self.pages = pages
        self.faults = {at: (word, [int(cell, 16) for cell in pattern]) for at, word, pattern in faults}
        self.worth = [[15] * 256 for place in range(blocks * pages)]
        self.written = [[15] * 256 for place in range(blocks * pages)]
        self.fallen = {place: [] for place in range(blocks * pages)}
        self.whole = {place: False for place in range(blocks * pages)}
        self.wear = [0] * blocks
        self.bad = set()
        self.done = 0
        self.cuts = 0
        self.is_on = True

    def page(self, place):
        return "".join(["0123456789abcdef"[worth] for worth in self.worth[place]])

    def image(self):
        return tuple(self.page(place) for place in range(self.blocks * self.pages))

    def is_empty(self, place):
        return self.page(place) == "f" * 256

    def deed(self):
        if not self.is_on:
            raise Told("Cut", None)
        self.done += 1
        return self.faults.get(self.done, (None, None))

    def outcome(self, block, word):
        if word == "cut":
            self.is_on = False
            self.cuts += 1
            raise Told("Cut", None)
        if word == "bad":
            self.bad.add(block)
        return block not in self.bad

    def write(self, place, cells):
        if not self.is_empty(place):
            raise Told("NotEmpty", place)
        word, pattern = self.deed()
        block = place // self.pages
        if block not in self.bad:
            for cell in range(256):
                worth = int(cells[cell], 16)
                self.written[place][cell] = worth
                if word is not None:
                    worth = max(worth, pattern[cell % len(pattern)])
                self.worth[place][cell] = worth
            self.whole[place] = word is None
            self.fallen[place] = []
        return self.outcome(block, word)

    def erase(self, block):
        word, pattern = self.deed()
        if block not in self.bad:
            self.wear[block] += 1
            for place in range(block * self.pages, block * self.pages + self.pages):
                self.whole[place] = False
                for cell in range(256):
                    lifted = 15 if word is None else pattern[cell % len(pattern)]
                    self.worth[place][cell] = max(self.worth[place][cell], lifted)
        return self.outcome(block, word)

    def again(self):
        self.is_on = True

    def fade(self, place, cell, sign):
        if not self.whole[place] or self.is_empty(place) or int(sign, 16) >= self.worth[place][cell]:
            raise Told("BadFade", (cell, sign))
        self.worth[place][cell] = int(sign, 16)
        self.whole[place] = False
        self.fallen[place].append(cell)

    def lies_between(self):
        """The bold sentence of section 4: cells below what was last written, page by page."""
        for place in range(self.blocks * self.pages):
            if self.worth[place] == self.written[place]:
                continue
            below = [cell for cell in range(256) if self.worth[place][cell] < self.written[place][cell]]
            if below and below != self.fallen[place]:
                return False
        return True
