"""Books: copies that are written and read by some of their holders alone."""

from ringkeep.errors import NoHand, NoKey
from ringkeep.rings import holders


class Book:
    def __init__(self, ring, copies):
        self.circle = ring
        self.copies = copies
        # Counted beside what is kept: a key's number goes on rising when hands have forgotten it.
        self.times = {}
        self.kept = {}
        for hand in ring[1]:
            self.kept[hand] = {}

    def write(self, key, value, some):
        self.must_hold(key, some)
        number = self.times.get(key, 0) + 1
        self.times[key] = number
        self.note(key, (number, value), some)
        return number

    def read(self, key, some):
        self.must_hold(key, some)
        return self.newest(key, some)

    def forget(self, hand):
        if hand not in self.kept:
            raise NoHand(f"there is no hand at {hand!r}")
        self.kept[hand] = {}

    def spread(self, key):
        own = holders(self.circle, key, self.copies)
        self.note(key, self.newest(key, own), own)

    def must_hold(self, key, some):
        own = holders(self.circle, key, self.copies)
        for hand in some:
            if hand not in own:
                raise NoHand(f"{hand!r} is no holder of {key!r}")

    def note(self, key, pair, hands):
        for hand in hands:
            self.kept[hand][key] = pair

    def newest(self, key, hands):
        found = [self.kept[hand][key] for hand in hands if key in self.kept[hand]]
        if len(found) == 0:
            raise NoKey(f"none of {hands!r} keeps {key!r}")
        # No two writes of a key have the same number, so the numbers alone decide.
        return max(found)


def reads_needed(copies, written, forgot):
    # All who don't keep it may be read ahead of the first one who does.
    without = copies - (written - forgot)
    return without + 1
