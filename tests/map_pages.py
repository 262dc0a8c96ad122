"""Maps on pages that are never written over: what tests of maps share."""

from reading import plain_map, plain_sheet

from worneven.maps import written


class Pages:
    """Page texts by unlike places, which grow in no order; each is written once."""

    def __init__(self, chance=None):
        self.texts = {}
        self.chance = chance

    def look(self, place):
        return self.texts[place]

    def free_place(self):
        place = len(self.texts) if self.chance is None else self.chance.randrange(100000)
        while place in self.texts:
            place += 1
        return place

    def keep(self, told):
        """Writes new sheets, children ahead of their parents: the place of the root."""
        sheets, root = told
        places = []
        for sheet in sheets:
            place = self.free_place()
            self.texts[place] = written(sheet, tuple(places))
            places.append(place)
        return places[root[1]] if isinstance(root, tuple) else root

    def items(self, root):
        """The items of the map by an own reading, which looks at every sheet and fails if it is none."""
        return tuple(plain_map(self.texts.get, root))

    def places(self, root):
        found = []
        plain_map(self.texts.get, root, found)
        return found

    def leaves(self, root):
        return {place for place in self.places(root) if plain_sheet(self.texts[place])[0] == "leaf"}

    def forks(self, root):
        return set(self.places(root)) - self.leaves(root)


def changed_dict(before, changes):
    after = dict(before)
    for key, value in changes:
        if value is None:
            after.pop(key, None)
        else:
            after[key] = value
    return after


def sorted_items(items):
    return tuple(sorted(items.items()))
