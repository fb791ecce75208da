"""Routes: how a key is found from a hand by what each hand on the way knows."""

from ringkeep.rings import count_spots, home_of, how_far, next_hand, power_of_two


def fingers(ring, hand):
    return tuple([home_of(ring, hand + power_of_two(k)) for k in range(ring[0])])


def farthest_toward(ring, known, here, key):
    limit = how_far(ring, here, key)
    best = None
    best_far = 0
    for hand in known:
        # A finger that is the hand itself is 0 far, and so never chosen.
        far = how_far(ring, here, hand)
        if far > best_far and far <= limit:
            best = hand
            best_far = far
    return best


def trace(ring, known, hand, key):
    # Known is filled on the way, so that many routes of one ring find each hand's fingers once.
    path = [hand]
    here = hand
    while how_far(ring, here, key) != 0:
        if here not in known:
            known[here] = fingers(ring, here)
        onward = farthest_toward(ring, known[here], here, key)
        if onward is None:
            path.append(next_hand(ring, here))
            break
        path.append(onward)
        here = onward
    return tuple(path)


def route(ring, hand, key):
    return trace(ring, {}, hand, key)


def most_hops(ring):
    known = {}
    most = 0
    for hand in ring[1]:
        for key in range(count_spots(ring)):
            most = max(most, len(trace(ring, known, hand, key)) - 1)
    return most
