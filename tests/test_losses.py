"""Losses: what falls lose, how many are safe, and how many sets are not (0.2 (e), 4.1, 4.2)."""

import itertools
import unittest

from ringkeep.keeps import Keep
from ringkeep.losses import count_losing, lost_by, safe_falls
from ringkeep.rings import holders
from tests.walks import all_rings, hands_met, large_rings, rings_beyond, small_rings, spots_of

MIDDLE = [ring for ring in large_rings() if len(ring[1]) <= 12]


def walked_holders(ring, copies):
    return [set(hands_met(ring, key)[:copies]) for key in range(spots_of(ring))]


def lost_of(rows, hands):
    return tuple(key for key, row in enumerate(rows) if row <= set(hands))


def walked_lost(ring, copies, hands):
    return lost_of(walked_holders(ring, copies), hands)


def counted_losing(rows, ring, many):
    return sum(any(row <= set(hands) for row in rows) for hands in itertools.combinations(ring[1], many))


def all_sets(ring):
    for many in range(len(ring[1]) + 1):
        yield from itertools.combinations(ring[1], many)


class LostBy(unittest.TestCase):
    def test_known(self):
        ring = (4, (0, 3, 5, 9, 14))
        self.assertEqual(lost_by(ring, 1, (0,)), (0, 15))
        self.assertEqual(lost_by(ring, 1, (9, 0)), (0, 6, 7, 8, 9, 15))
        self.assertEqual(lost_by(ring, 2, (9, 0)), ())
        self.assertEqual(lost_by(ring, 2, (14, 0)), (10, 11, 12, 13, 14))
        self.assertEqual(lost_by(ring, 3, (14, 0, 3, 9)), (6, 7, 8, 9, 10, 11, 12, 13, 14))
        self.assertEqual(lost_by(ring, 6, (0, 3, 5, 9)), ())
        self.assertEqual(lost_by(ring, 6, (0, 3, 5, 9, 14)), tuple(range(16)))

    def test_against_holders_of_all_keys(self):
        for ring in small_rings():
            for copies in (1, 2, 3, 6):
                for hands in all_sets(ring):
                    told = lost_by(ring, copies, hands)
                    self.assertEqual(told, walked_lost(ring, copies, hands))
                    keys = [key for key in range(spots_of(ring)) if set(holders(ring, key, copies)) <= set(hands)]
                    self.assertEqual(list(told), keys)

    def test_on_larger_rings_and_beyond(self):
        for ring in large_rings() + rings_beyond():
            for copies in (1, 2, 4, 6, 7):
                rows = walked_holders(ring, copies)
                hands_there = ring[1]
                some = (hands_there[:1], hands_there[:copies], hands_there[1:copies + 2], hands_there[:-1])
                for hands in some + (hands_there[::2], hands_there):
                    self.assertEqual(lost_by(ring, copies, hands), lost_of(rows, hands))

    def test_the_order_of_the_hands_does_not_matter(self):
        for ring in list(all_rings(3))[::9]:
            for hands in itertools.permutations(ring[1][:4]):
                self.assertEqual(lost_by(ring, 2, hands), walked_lost(ring, 2, hands))

    def test_by_none_nothing_is_lost(self):
        for ring in small_rings() + large_rings():
            self.assertEqual(lost_by(ring, 1, ()), ())


class SafeFalls(unittest.TestCase):
    def test_known(self):
        ring = (4, (0, 3, 5, 9, 14))
        self.assertEqual([safe_falls(ring, copies) for copies in range(1, 7)], [0, 1, 2, 3, 4, 4])
        self.assertEqual([safe_falls((7, (100,)), copies) for copies in range(1, 7)], [0] * 6)

    def test_against_all_sets(self):
        for ring in small_rings():
            for copies in range(1, 9):
                rows = walked_holders(ring, copies)
                safe = [many for many in range(len(ring[1]) + 1) if counted_losing(rows, ring, many) == 0]
                self.assertEqual(safe_falls(ring, copies), max(safe))
                self.assertEqual(safe, list(range(max(safe) + 1)))

    def test_on_larger_rings(self):
        for ring in MIDDLE:
            for copies in range(1, 7):
                fewest = min(len(row) for row in walked_holders(ring, copies))
                self.assertEqual(safe_falls(ring, copies), fewest - 1)


class FallsOfAKeep(unittest.TestCase):
    """0.2 (e)."""

    def full(self, ring, copies):
        keep = Keep(ring, copies)
        for key in range(spots_of(ring)):
            keep.put(key, key)
        return keep

    def test_a_fall_tells_what_lost_by_tells(self):
        for ring in list(all_rings(3))[::2] + [(4, (0, 3, 5, 9, 14)), (5, (1, 2, 3, 17, 30, 31))]:
            for copies in (1, 2, 3, 5):
                for hands in all_sets(ring):
                    if len(hands) < len(ring[1]):
                        self.assertEqual(self.full(ring, copies).fall(hands), lost_by(ring, copies, hands))

    def test_so_many_fall_safely_and_of_one_more_some_do_not(self):
        for ring in list(all_rings(3))[::3] + [(4, (0, 3, 5, 9, 14)), (5, (1, 2, 3, 17, 30, 31))]:
            for copies in range(1, 7):
                safe = safe_falls(ring, copies)
                for hands in itertools.combinations(ring[1], safe):
                    self.assertEqual(self.full(ring, copies).fall(hands), ())
                if safe + 1 < len(ring[1]):
                    more = itertools.combinations(ring[1], safe + 1)
                    self.assertTrue(any(self.full(ring, copies).fall(hands) for hands in more))
                else:
                    self.assertEqual(lost_by(ring, copies, ring[1]), tuple(range(spots_of(ring))))


class CountLosing(unittest.TestCase):
    def test_known(self):
        ring = (4, (0, 3, 5, 9, 14))
        self.assertEqual([count_losing(ring, 1, many) for many in range(6)], [0, 5, 10, 10, 5, 1])
        self.assertEqual([count_losing(ring, 2, many) for many in range(6)], [0, 0, 5, 10, 5, 1])
        self.assertEqual([count_losing(ring, 3, many) for many in range(6)], [0, 0, 0, 5, 5, 1])
        self.assertEqual([count_losing(ring, 5, many) for many in range(6)], [0, 0, 0, 0, 0, 1])
        self.assertEqual([count_losing(ring, 6, many) for many in range(6)], [0, 0, 0, 0, 0, 1])

    def test_against_all_sets(self):
        for ring in small_rings():
            for copies in range(1, 9):
                rows = walked_holders(ring, copies)
                for many in range(len(ring[1]) + 1):
                    self.assertEqual(count_losing(ring, copies, many), counted_losing(rows, ring, many))

    def test_against_all_sets_of_more_hands(self):
        for beat, many_hands in ((4, 9), (5, 10), (6, 11), (7, 12)):
            ring = (beat, tuple(k * 2 ** beat // many_hands for k in range(many_hands)))
            for copies in range(1, 7):
                rows = [set(hands_met(ring, hand)[:copies]) for hand in ring[1]]
                for many in range(many_hands + 1):
                    self.assertEqual(count_losing(ring, copies, many), counted_losing(rows, ring, many))

    def test_a_hand_at_every_spot(self):
        # With one copy every set but the empty one loses; with two the safe ones have no two side by side.
        ring = (7, tuple(range(128)))
        self.assertEqual([count_losing(ring, 1, many) for many in (0, 1, 2, 127, 128)], [0, 128, 8128, 128, 1])
        self.assertEqual([count_losing(ring, 2, many) for many in (1, 2, 127, 128)], [0, 128, 128, 1])
        self.assertEqual(sum(count_losing(ring, 1, many) for many in range(129)), 2 ** 128 - 1)
        # A row of six and one more hand: the rows of seven are met twice.
        self.assertEqual([count_losing(ring, 6, many) for many in (5, 6, 7)], [0, 128, 128 * 122 - 128])

    def test_beyond_how_many_there_are(self):
        for ring in (2, (0,)), (4, (0, 3, 5, 9, 14)):
            for copies in (1, 2, 6):
                self.assertEqual(count_losing(ring, copies, len(ring[1]) + 1), 0)
                self.assertEqual(count_losing(ring, copies, -1), 0)


if __name__ == "__main__":
    unittest.main()
