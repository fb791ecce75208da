"""What the tests measure the program by: walks round a ring, one step at a time, rings to walk, and keeps, crowds and
books by the document's own words, made of such walks alone."""

import itertools
import random


def spots_of(ring):
    return 2 ** ring[0]


def step(ring, spot):
    return 0 if spot == spots_of(ring) - 1 else spot + 1


def steps_between(ring, one, other):
    steps = 0
    while one != other:
        one = step(ring, one)
        steps += 1
    return steps


def hands_met(ring, key):
    """All hands, in the order in which a walk from the key on, once round, meets them."""
    met = []
    for _ in range(spots_of(ring)):
        if key in ring[1]:
            met.append(key)
        key = step(ring, key)
    return met


def homes(ring):
    return [hands_met(ring, key)[0] for key in range(spots_of(ring))]


def all_rings(beat):
    """Every ring of a beat, also those with more than 12 hands."""
    spots = range(2 ** beat)
    for many in range(1, 2 ** beat + 1):
        for hands in itertools.combinations(spots, many):
            yield (beat, hands)


def small_rings():
    return [ring for beat in (2, 3) for ring in all_rings(beat)]


def large_rings():
    """Some rings of the beats from 4 to 7, with few and many hands, up to a hand at every spot."""
    choice = random.Random(11)
    rings = []
    for beat in (4, 5, 6, 7):
        spots = 2 ** beat
        for many in (1, 2, 3, 5, 8, 12, 13, 16):
            rings.append((beat, tuple(sorted(choice.sample(range(spots), many)))))
        rings.append((beat, (0,)))
        rings.append((beat, (spots - 1,)))
        rings.append((beat, tuple(range(12))))
        rings.append((beat, tuple(range(spots - 12, spots))))
        rings.append((beat, tuple(2 ** k for k in range(beat))))
        rings.append((beat, tuple(range(spots))))
    return rings


def rings_beyond():
    """Rings whose beat lies somewhat beyond the bounds."""
    return [(1, (0,)), (1, (1,)), (1, (0, 1)), (8, (255,)), (8, (0, 1, 100, 255)), (9, (3, 300, 511))]


def free_spots(ring):
    return [spot for spot in range(spots_of(ring)) if spot not in ring[1]]


def filled(keep):
    """The keep, with every key put."""
    for key in range(spots_of(keep.ring())):
        keep.put(key, 100 + key)
    return keep


def keep_state(keep):
    """All that can be asked of a keep."""
    ring = keep.ring()
    return ring, tuple(keep.has(hand) for hand in ring[1]), tuple(keep.keepers(key) for key in range(spots_of(ring)))


def choose_act(choice, ring):
    """An act on a keep with this ring that is not refused: its name, and what is handed in."""
    acts = ["put", "put", "mend", "fall"]
    acts += ["come"] if free_spots(ring) else []
    acts += ["go"] if len(ring[1]) > 1 else []
    act = choice.choice(acts)
    if act == "put":
        return act, (choice.randrange(spots_of(ring)), choice.randrange(-99, 99))
    if act == "come":
        return act, (choice.choice(free_spots(ring)),)
    if act == "go":
        return act, (choice.choice(ring[1]),)
    if act == "fall":
        return act, (tuple(sorted(choice.sample(ring[1], choice.randrange(min(4, len(ring[1])))))),)
    return act, ()


def walked_on(ring, spot, many):
    """The spot that is so many steps behind a spot."""
    for _ in range(many):
        spot = step(ring, spot)
    return spot


class WalkedKeep:
    """Points 3.1 to 3.3, and change of 8.2. What is kept is a dict of (hand, key) and value."""

    def __init__(self, ring, copies):
        self.now = ring
        self.copies = copies
        self.kept = {}

    def ring(self):
        return self.now

    def put(self, key, value):
        for hand in hands_met(self.now, key)[:self.copies]:
            self.kept[(hand, key)] = value

    def giver(self, key):
        for hand in hands_met(self.now, key):
            if (hand, key) in self.kept:
                return hand
        return None

    def get(self, key):
        return self.kept[(self.giver(key), key)]

    def has(self, hand):
        return tuple(sorted((key, value) for (one, key), value in self.kept.items() if one == hand))

    def keepers(self, key):
        return tuple(sorted(hand for hand, other in self.kept if other == key))

    def keys(self):
        return sorted({key for _, key in self.kept})

    def mend(self, onto=None):
        onto = onto or self.now
        drops = []
        sends = []
        for key in self.keys():
            takers = hands_met(onto, key)[:self.copies]
            for taker in takers:
                if (taker, key) not in self.kept:
                    sends.append((key, "send", self.giver(key), taker))
            for hand in self.keepers(key):
                if hand not in takers:
                    drops.append((key, "drop", hand))
        for key, _, giver, taker in sends:
            self.kept[(taker, key)] = self.kept[(giver, key)]
        for key, _, hand in drops:
            self.kept.pop((hand, key))
        return tuple(sorted(drops + sends))

    def come(self, spot):
        self.now = (self.now[0], tuple(sorted(self.now[1] + (spot,))))
        return self.mend()

    def without(self, hands):
        return (self.now[0], tuple(hand for hand in self.now[1] if hand not in hands))

    def go(self, hand):
        rest = self.without((hand,))
        paper = self.mend(rest)
        self.now = rest
        return paper

    def change(self, hands):
        target = (self.now[0], hands)
        self.now = (self.now[0], tuple(sorted(set(self.now[1]) | set(hands))))
        paper = self.mend(target)
        self.now = target
        return paper

    def fall(self, hands):
        before = self.keys()
        self.now = self.without(hands)
        self.kept = {pair: value for pair, value in self.kept.items() if pair[0] not in hands}
        return tuple(key for key in before if key not in self.keys())


class WalkedCrowd:
    """Points 5.1 to 5.5."""

    def __init__(self, ring, reach):
        self.beat = ring[0]
        self.reach = reach
        self.stand = set(ring[1])
        self.row = {}
        self.finger = {}
        for hand in ring[1]:
            self.row[hand] = self.row_when_new(hand)
            self.finger[hand] = self.finger_when_new(hand)

    def now(self):
        return (self.beat, tuple(sorted(self.stand)))

    def finger_spots(self, hand):
        return [walked_on(self.now(), hand, 2 ** k) for k in range(self.beat)]

    def row_when_new(self, hand):
        others = [other for other in hands_met(self.now(), hand) if other != hand]
        return others[:self.reach]

    def finger_when_new(self, hand):
        return [hands_met(self.now(), spot)[0] for spot in self.finger_spots(hand)]

    def standing(self):
        return tuple(sorted(self.stand))

    def knows(self, hand):
        return tuple(self.row[hand])

    def points(self, hand):
        return tuple(self.finger[hand])

    def looked_at(self, hands):
        return [hand for hand in hands if hand in self.stand]

    def fall(self, hands):
        self.stand -= set(hands)

    def far(self, one, other):
        return steps_between(self.now(), one, other)

    def find(self, hand, key):
        if key == hand:
            return (hand,)
        path = [hand]
        while True:
            here = path[-1]
            row = self.looked_at(self.row[here])
            if not row:
                return tuple(path)
            if self.far(here, row[0]) >= self.far(here, key):
                return tuple(path + [row[0]])
            ways = [other for other in row + self.looked_at(self.finger[here])]
            ways = [other for other in ways if self.far(here, other) <= self.far(here, key)]
            path.append(max(ways, key=lambda other: self.far(here, other)))
            if path[-1] == key:
                return tuple(path)

    def come(self, spot, hand):
        path = self.find(hand, spot)
        last = path[-1]
        ahead = last if len(path) == 1 else path[-2]
        new_row = [last] + self.looked_at(self.row[last])
        ahead_row = [spot] + self.looked_at(self.row[ahead])
        self.row[spot] = new_row[:self.reach]
        self.finger[spot] = [last for _ in range(self.beat)]
        self.row[ahead] = ahead_row[:self.reach]
        self.stand.add(spot)
        return path

    def tidy(self, hand):
        row = self.looked_at(self.row[hand])
        if not row:
            self.row[hand] = []
            self.finger[hand] = [hand for _ in range(self.beat)]
            return
        theirs = [other for other in self.looked_at(self.row[row[0]]) if other != hand]
        self.row[hand] = ([row[0]] + theirs)[:self.reach]
        found = [self.find(hand, spot)[-1] for spot in self.finger_spots(hand)]
        self.finger[hand] = found

    def settled(self):
        return all(
            self.row[hand] == self.row_when_new(hand) and self.finger[hand] == self.finger_when_new(hand)
            for hand in self.stand
        )


class WalkedBook:
    """Point 6.1. What is kept is a dict of (hand, key) and pair, and how often a key was written is counted in the row
    of all keys that were; what is refused is told by its name."""

    def __init__(self, ring, copies):
        self.ring = ring
        self.copies = copies
        self.kept = {}
        self.row = []

    def holders(self, key):
        return hands_met(self.ring, key)[:self.copies]

    def write(self, key, value, some):
        if not set(some) <= set(self.holders(key)):
            return "NoHand"
        self.row.append(key)
        for hand in some:
            self.kept[(hand, key)] = (self.row.count(key), value)
        return self.row.count(key)

    def read(self, key, some):
        if not set(some) <= set(self.holders(key)):
            return "NoHand"
        pairs = [self.kept[(hand, key)] for hand in some if (hand, key) in self.kept]
        return max(pairs, key=lambda pair: pair[0]) if pairs else "NoKey"

    def forget(self, hand):
        if hand not in self.ring[1]:
            return "NoHand"
        self.kept = {place: pair for place, pair in self.kept.items() if place[0] != hand}
        return None

    def spread(self, key):
        pair = self.read(key, self.holders(key))
        if pair == "NoKey":
            return pair
        for hand in self.holders(key):
            self.kept[(hand, key)] = pair
        return None
