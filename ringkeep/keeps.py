"""Keeps: what each hand of a ring keeps, and what is handed over when hands come, go and fall."""

from ringkeep.errors import NoHand, NoKey
from ringkeep.rings import came, fell, holders, went


def kept_keys(kept):
    found = {}
    for hand in kept:
        for key in kept[hand]:
            found[key] = True
    return sorted(found)


def first_keeper(ring, kept, key):
    # All hands are asked, not the holders alone: when a hand has come, the one that keeps the key may hold it no more.
    for hand in holders(ring, key, len(ring[1])):
        if key in kept[hand]:
            return hand
    return None


def lines_of_key(ring, kept, key, takers):
    # The giver is chosen once, by what is kept before anything is sent.
    giver = first_keeper(ring, kept, key)
    lines = []
    for hand in ring[1]:
        if key in kept[hand] and hand not in takers:
            lines.append((key, "drop", hand))
        if key not in kept[hand] and hand in takers:
            lines.append((key, "send", giver, hand))
    return lines


def rising_pairs(own):
    return tuple(sorted(own.items()))


def hand_over(kept, paper):
    # All is sent before anything is dropped: a giver may have to drop what it gives.
    for line in paper:
        if line[1] == "send":
            kept[line[3]][line[0]] = kept[line[2]][line[0]]
    for line in paper:
        if line[1] == "drop":
            kept[line[2]].pop(line[0])


class Keep:
    def __init__(self, ring, copies):
        self.circle = ring
        self.copies = copies
        self.kept = {}
        for hand in ring[1]:
            self.kept[hand] = {}

    def ring(self):
        return self.circle

    def put(self, key, value):
        for hand in holders(self.circle, key, self.copies):
            self.kept[hand][key] = value

    def get(self, key):
        hand = first_keeper(self.circle, self.kept, key)
        if hand is None:
            raise NoKey(f"no hand keeps {key!r}")
        return self.kept[hand][key]

    def has(self, hand):
        if hand not in self.kept:
            raise NoHand(f"there is no hand at {hand!r}")
        return rising_pairs(self.kept[hand])

    def keepers(self, key):
        return tuple([hand for hand in self.circle[1] if key in self.kept[hand]])

    def mend_toward(self, target):
        # The hands of the ring as it is give, those that hold a key on the target take.
        paper = []
        for key in kept_keys(self.kept):
            takers = holders(target, key, self.copies)
            paper.extend(lines_of_key(self.circle, self.kept, key, takers))
        hand_over(self.kept, paper)
        return tuple(sorted(paper))

    def mend(self):
        return self.mend_toward(self.circle)

    def come(self, spot):
        return self.move_to(came(self.circle, spot))

    def go(self, hand):
        return self.move_to(went(self.circle, hand))

    def move_to(self, target):
        # Those that come are there to take, those that go are still there to give.
        self.gather(target)
        paper = self.mend_toward(target)
        self.leave(target)
        return paper

    def gather(self, target):
        for hand in target[1]:
            self.kept.setdefault(hand, {})
        self.circle = (target[0], tuple(sorted(self.kept)))

    def fall(self, hands):
        target = fell(self.circle, hands)
        before = kept_keys(self.kept)
        self.leave(target)
        return tuple([key for key in before if len(self.keepers(key)) == 0])

    def leave(self, target):
        for hand in self.circle[1]:
            if hand not in target[1]:
                self.kept.pop(hand)
        self.circle = target
