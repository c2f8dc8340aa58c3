"""The collection: names of objects, and how often each of them was counted."""

from lifenames.refusals import CollectionFull, NotInCollection

MOST_NAMES = 32


# From each name, as a tuple of its bytes, to its tally; a name's place is that of its key.
class Collection:
    def __init__(self):
        self.tallies = {}

    def count_in(self, name):
        if name not in self.tallies and len(self.tallies) == MOST_NAMES:
            raise CollectionFull()
        self.tallies[name] = self.tallies.get(name, 0) + 1
        return [list(self.tallies).index(name), self.tallies[name]]

    def forget(self, name):
        if name not in self.tallies:
            raise NotInCollection()
        return [self.tallies.pop(name)]

    def tallies_told(self):
        return [len(self.tallies)] + list(self.tallies.values())

    def name_told(self, place):
        if place < 0 or place >= len(self.tallies):
            raise NotInCollection()
        return [0] + list(list(self.tallies)[place])

    def tally_told(self, name):
        return [self.tallies.get(name, 0)]

    def ranked_told(self):
        names = list(self.tallies)
        ranked = sorted(names, key=lambda name: (-self.tallies[name], len(name), name))
        return [len(names)] + [names.index(name) for name in ranked]
