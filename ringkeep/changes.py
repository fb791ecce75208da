"""Changes: from one ring to another at once, what they cost at least, and papers done once more."""

from ringkeep.keeps import hand_over, rising_pairs
from ringkeep.rings import holders, must_be_spot


def all_kept(keep):
    return tuple([(hand, keep.has(hand)) for hand in keep.ring()[1]])


def replayed(kept, paper):
    behind = {}
    for hand, pairs in kept:
        behind[hand] = dict(pairs)
    for line in paper:
        if line[1] == "send":
            behind.setdefault(line[3], {})
    hand_over(behind, paper)
    return tuple([(hand, rising_pairs(behind[hand])) for hand in sorted(behind)])


def change(keep, hands):
    ring = keep.ring()
    for spot in hands:
        must_be_spot(ring, spot)
    return keep.move_to((ring[0], hands))


def count_new_holders(ring, other, copies, key):
    before = holders(ring, key, copies)
    return len([hand for hand in holders(other, key, copies) if hand not in before])


def least_moves(ring, other, copies, keys):
    return sum([count_new_holders(ring, other, copies, key) for key in keys])
