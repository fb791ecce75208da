"""Losses: which keys are lost when hands fall at once, and how many may fall safely."""

from ringkeep.rings import count_spots, holders


def lost_by(ring, copies, hands):
    lost = []
    for key in range(count_spots(ring)):
        if all([hand in hands for hand in holders(ring, key, copies)]):
            lost.append(key)
    return tuple(lost)


def count_holders(ring, copies):
    return min(copies, len(ring[1]))


def safe_falls(ring, copies):
    # Each hand is home of its own spot, so each row of so many hands side by side holds some key:
    # as many hands as one key has holders may lose it, fewer never do.
    return count_holders(ring, copies) - 1


def count_sets(members, many):
    # Below 0, or beyond the members, there is no such set.
    if many < 0 or many > members:
        return 0
    sets = 1
    for chosen in range(many):
        sets = sets * (members - chosen) // (chosen + 1)
    return sets


def share_out(places, most, total):
    # For each number from 0 to total: in how many ways the places, each taking fewer than most, take it together.
    ways = [1] + [0] * total
    for place in range(places):
        wider = []
        for taken in range(total + 1):
            wider.append(sum(ways[max(taken - most + 1, 0):taken + 1]))
        ways = wider
    return ways


def count_safe_sets(ring, copies, many):
    # A set is safe just if between one hand left out and the next one, round, always fewer fall than a key has
    # holders. One such gap may reach over the ring's end: if so many fall in it, it can be cut there in one way more.
    row = count_holders(ring, copies)
    left_out = len(ring[1]) - many
    if left_out < 1:
        return 0
    ways = share_out(left_out - 1, row, many)
    safe = 0
    for across in range(min(row, many + 1)):
        safe = safe + (across + 1) * ways[many - across]
    return safe


def count_losing(ring, copies, many):
    sets = count_sets(len(ring[1]), many)
    if sets == 0:
        return 0
    return sets - count_safe_sets(ring, copies, many)
