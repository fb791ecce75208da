"""Rings: pairs of a beat and a rising tuple of the spots where hands are."""

from ringkeep.errors import NoHand

LEAST_BEAT = 2
MOST_BEAT = 7
MOST_HANDS = 12


def power_of_two(times):
    power = 1
    for step in range(times):
        power = power * 2
    return power


def count_spots(ring):
    return power_of_two(ring[0])


def is_whole(thing):
    # Python counts truths among the ints, the document does not.
    return isinstance(thing, int) and not isinstance(thing, bool)


def is_ring(thing):
    if not isinstance(thing, tuple) or len(thing) != 2:
        return False
    beat = thing[0]
    # Asked ahead of the hands: the spots of a huge beat could not be counted.
    if not is_whole(beat) or beat < LEAST_BEAT or beat > MOST_BEAT:
        return False
    return are_hands(thing[1], count_spots(thing))


def are_hands(thing, spots):
    if not isinstance(thing, tuple) or len(thing) < 1 or len(thing) > MOST_HANDS:
        return False
    last = -1
    for spot in thing:
        if not is_whole(spot) or spot <= last or spot >= spots:
            return False
        last = spot
    return True


def how_far(ring, one, other):
    return (other - one) % count_spots(ring)


def home_place(ring, key):
    # Hands rise, so the first one that is not below the key is the nearest;
    # behind the last hand the way leads over the ring's end to the first one.
    spot = key % count_spots(ring)
    for place, hand in enumerate(ring[1]):
        if hand >= spot:
            return place
    return 0


def home_of(ring, key):
    return ring[1][home_place(ring, key)]


def holders(ring, key, copies):
    hands = ring[1]
    place = home_place(ring, key)
    from_home = hands[place:] + hands[:place]
    # A number below 0 would cut the row from its far end.
    return from_home[:max(copies, 0)]


def next_hand(ring, hand):
    return home_of(ring, hand + 1)


def span_of(ring, hand):
    hands = ring[1]
    if hand not in hands:
        raise NoHand(f"there is no hand at {hand!r}")
    # The place ahead of the first one is -1, the last one; a hand alone is ahead of itself.
    ahead = hands[hands.index(hand) - 1]
    first = (ahead + 1) % count_spots(ring)
    return (first, how_far(ring, first, hand) + 1)


def must_be_spot(ring, spot):
    if spot < 0 or spot >= count_spots(ring):
        raise NoHand(f"{spot!r} is no spot of the ring")


def came(ring, spot):
    hands = ring[1]
    must_be_spot(ring, spot)
    if spot in hands:
        raise NoHand(f"there is a hand at {spot!r} already")
    return (ring[0], tuple(sorted(hands + (spot,))))


def went(ring, hand):
    hands = ring[1]
    if hand not in hands:
        raise NoHand(f"there is no hand at {hand!r}")
    if len(hands) == 1:
        raise NoHand(f"the hand at {hand!r} is the last one")
    return (ring[0], tuple([other for other in hands if other != hand]))


def fell(ring, hands):
    for hand in hands:
        if hand not in ring[1]:
            raise NoHand(f"there is no hand at {hand!r}")
    rest = tuple([hand for hand in ring[1] if hand not in hands])
    if len(rest) == 0:
        raise NoHand(f"{hands!r} are all the hands there are")
    return (ring[0], rest)
