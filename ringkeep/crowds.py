"""Crowds: hands that each know a few others alone, some of whom may have fallen without a word."""

from ringkeep.errors import NoHand
from ringkeep.rings import came, fell, holders, how_far, power_of_two
from ringkeep.routes import farthest_toward, fingers


def nearest_others(ring, hand, reach):
    # From the spot behind the hand on, the hand itself comes last of all, and is left out.
    return holders(ring, hand + 1, min(reach, len(ring[1]) - 1))


class Crowd:
    def __init__(self, ring, reach):
        # The ring of those that stand; no hand looks at it but to see whether one stands.
        self.circle = ring
        # A number below 0 would cut rows from their far end.
        self.reach = max(reach, 0)
        self.known = {}
        self.pointed = {}
        for hand in ring[1]:
            self.known[hand] = nearest_others(ring, hand, self.reach)
            self.pointed[hand] = fingers(ring, hand)

    def standing(self):
        return self.circle[1]

    def knows(self, hand):
        self.must_stand(hand)
        return self.known[hand]

    def points(self, hand):
        self.must_stand(hand)
        return self.pointed[hand]

    def must_stand(self, hand):
        if hand not in self.circle[1]:
            raise NoHand(f"no hand stands at {hand!r}")

    def that_stand(self, hands):
        return tuple([hand for hand in hands if hand in self.circle[1]])

    def all_fingers_to(self, hand):
        return (hand,) * self.circle[0]

    def fall(self, hands):
        rest = fell(self.circle, hands)
        for hand in self.circle[1]:
            if hand not in rest[1]:
                self.known.pop(hand)
                self.pointed.pop(hand)
        self.circle = rest

    def find(self, hand, key):
        self.must_stand(hand)
        path = [hand]
        here = hand
        while how_far(self.circle, here, key) != 0:
            near = self.that_stand(self.known[here])
            if len(near) == 0:
                break
            if how_far(self.circle, here, near[0]) >= how_far(self.circle, here, key):
                path.append(near[0])
                break
            # The first one known is nearer than the key, so there is always one to go on to.
            here = farthest_toward(self.circle, near + self.that_stand(self.pointed[here]), here, key)
            path.append(here)
        return tuple(path)

    def come(self, spot, hand):
        wider = came(self.circle, spot)
        path = self.find(hand, spot)
        last = path[-1]
        ahead = path[-2] if len(path) > 1 else last
        # Both rows are made before the new one stands: one that fell at its spot may still be known there.
        behind_new = (last,) + self.that_stand(self.known[last])
        behind_ahead = (spot,) + self.that_stand(self.known[ahead])
        self.known[spot] = behind_new[:self.reach]
        self.pointed[spot] = self.all_fingers_to(last)
        self.known[ahead] = behind_ahead[:self.reach]
        self.circle = wider
        return path

    def tidy(self, hand):
        self.must_stand(hand)
        near = self.that_stand(self.known[hand])
        if len(near) == 0:
            self.known[hand] = ()
            self.pointed[hand] = self.all_fingers_to(hand)
        else:
            self.known[hand] = self.known_through(near[0], hand)
            self.pointed[hand] = self.found_fingers(hand)

    def known_through(self, first, hand):
        behind = [other for other in self.that_stand(self.known[first]) if other != hand]
        return ((first,) + tuple(behind))[:self.reach]

    def found_fingers(self, hand):
        return tuple([self.find(hand, hand + power_of_two(k))[-1] for k in range(self.circle[0])])

    def settled(self):
        for hand in self.circle[1]:
            if self.known[hand] != nearest_others(self.circle, hand, self.reach):
                return False
            if self.pointed[hand] != fingers(self.circle, hand):
                return False
        return True
