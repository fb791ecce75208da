"""Keeps: what is put, got, sent, dropped and lost (0.2 (c) and (d), 3.1 to 3.3)."""

import itertools
import random
import unittest

from ringkeep.errors import NoHand, NoKey
from ringkeep.keeps import Keep, first_keeper
from tests.walks import (
    WalkedKeep, all_rings, choose_act, filled, free_spots, hands_met, keep_state, large_rings, small_rings, spots_of,
)

MIDDLE = [ring for ring in large_rings() if ring[0] == 4]
KNOWN = (4, (0, 3, 5, 9, 14))


def full(ring, copies, kind=Keep):
    return filled(kind(ring, copies))


class New(unittest.TestCase):
    def test_nothing_is_kept(self):
        for ring in small_rings() + MIDDLE:
            for copies in range(1, 7):
                keep = Keep(ring, copies)
                self.assertEqual(keep.ring(), ring)
                for hand in ring[1]:
                    self.assertEqual(keep.has(hand), ())
                for key in range(spots_of(ring)):
                    self.assertEqual(keep.keepers(key), ())
                    self.assertRaises(NoKey, keep.get, key)
                self.assertEqual(keep.mend(), ())

    def test_two_keeps_have_nothing_in_common(self):
        one = Keep(KNOWN, 2)
        other = Keep(KNOWN, 2)
        one.put(3, 7)
        self.assertEqual(other.keepers(3), ())
        one.come(4)
        self.assertEqual(other.ring(), KNOWN)


class PutAndGet(unittest.TestCase):
    def test_known(self):
        keep = Keep(KNOWN, 3)
        self.assertIsNone(keep.put(6, 60))
        self.assertEqual(keep.keepers(6), (0, 9, 14))
        self.assertEqual(keep.get(6), 60)
        self.assertIsNone(keep.put(1, -5))
        self.assertEqual(keep.keepers(1), (3, 5, 9))
        self.assertEqual(keep.has(9), ((1, -5), (6, 60)))
        self.assertEqual(keep.has(3), ((1, -5),))
        self.assertEqual(keep.has(14), ((6, 60),))
        self.assertEqual(keep.ring(), KNOWN)

    def test_each_holder_keeps_it_and_nobody_else(self):
        for ring in small_rings() + MIDDLE:
            for copies in range(1, 7):
                keep = Keep(ring, copies)
                for key in range(spots_of(ring)):
                    self.assertIsNone(keep.put(key, key * 3))
                    self.assertEqual(keep.keepers(key), tuple(sorted(hands_met(ring, key)[:copies])))
                    self.assertEqual(keep.get(key), key * 3)
                self.assertEqual(keep.ring(), ring)

    def test_copies_beyond(self):
        for copies in (7, 8, 20):
            keep = full((4, tuple(range(0, 16, 2))), copies)
            self.assertEqual(len(keep.keepers(3)), min(copies, 8))

    def test_in_the_place_of_a_value_that_was_there(self):
        for value in (0, -1, 10 ** 90):
            keep = full(KNOWN, 2)
            keep.put(6, value)
            self.assertEqual(keep.get(6), value)
            for hand in KNOWN[1]:
                here = dict(keep.has(hand))
                self.assertEqual(len(here), len(keep.has(hand)))
                self.assertEqual(here.get(6), value if hand in (9, 14) else None)
            self.assertEqual(keep.get(7), 107)

    def test_a_put_behind_a_fall_goes_to_those_who_hold_it_now(self):
        keep = full(KNOWN, 2)
        keep.fall((9,))
        self.assertEqual(keep.keepers(6), (14,))
        keep.put(6, 1)
        self.assertEqual(keep.keepers(6), (0, 14))
        self.assertEqual((dict(keep.has(0))[6], dict(keep.has(14))[6]), (1, 1))

    def test_has_and_keepers_rise(self):
        for ring in MIDDLE:
            keep = Keep(ring, 4)
            for key in (9, 2, 15, 0, 7, 1):
                keep.put(key, 50 - key)
            for hand in ring[1]:
                keys = [key for key, _ in keep.has(hand)]
                self.assertEqual(keys, sorted(set(keys)))
            for key in range(16):
                self.assertEqual(list(keep.keepers(key)), sorted(set(keep.keepers(key))))

    def test_get_asks_the_first_that_keeps_it(self):
        keep = full(KNOWN, 3)
        keep.fall((9,))
        self.assertEqual(keep.get(6), 106)
        keep.fall((14,))
        self.assertEqual(keep.keepers(6), (0,))
        self.assertEqual(keep.get(6), 106)

    def test_get_asks_from_the_home_on_round_also_who_is_no_holder(self):
        # No act leaves a key with another than its holders, so what the hands keep is laid out here.
        for ring in list(all_rings(3))[::5]:
            for key in range(8):
                met = hands_met(ring, key)
                for many in range(1, len(met) + 1):
                    for some in itertools.combinations(range(len(met)), many):
                        keep = Keep(ring, 1)
                        for place in some:
                            keep.kept[met[place]][key] = 70 + place
                        self.assertEqual(keep.get(key), 70 + some[0])
                        self.assertEqual(first_keeper(ring, keep.kept, key), met[some[0]])
                        self.assertEqual(keep.keepers(key), tuple(sorted(met[place] for place in some)))

    def test_no_key_where_none_keeps_it(self):
        keep = Keep(KNOWN, 1)
        keep.put(4, 44)
        for key in range(16):
            if key != 4:
                with self.assertRaises(NoKey) as caught:
                    keep.get(key)
                self.assertNotIsInstance(caught.exception, NoHand)
        keep.fall((5,))
        self.assertRaises(NoKey, keep.get, 4)

    def test_no_hand_of_has_where_there_is_none(self):
        keep = full(KNOWN, 2)
        for spot in free_spots(KNOWN) + [-1, 16, 100]:
            with self.assertRaises(NoHand) as caught:
                keep.has(spot)
            self.assertNotIsInstance(caught.exception, NoKey)
        keep.fall((3,))
        self.assertRaises(NoHand, keep.has, 3)
        keep.go(5)
        self.assertRaises(NoHand, keep.has, 5)
        keep.come(7)
        self.assertEqual([key for key, _ in keep.has(7)], [0, 1, 2, 3, 4, 5, 6, 7, 15])


class Papers(unittest.TestCase):
    def test_mend_with_nothing_to_do(self):
        for ring in small_rings()[::7] + MIDDLE:
            for copies in range(1, 7):
                keep = full(ring, copies)
                before = keep_state(keep)
                self.assertEqual(keep.mend(), ())
                self.assertEqual(keep_state(keep), before)

    def test_mend_known(self):
        keep = Keep(KNOWN, 3)
        keep.put(6, 60)
        keep.put(1, 10)
        keep.fall((9,))
        self.assertEqual(keep.mend(), ((1, "send", 3, 14), (6, "send", 14, 3)))
        self.assertEqual(keep.keepers(6), (0, 3, 14))
        self.assertEqual(keep.has(3), ((1, 10), (6, 60)))
        self.assertEqual(keep.mend(), ())

    def test_mend_where_one_that_is_no_holder_keeps_it(self):
        keep = Keep(KNOWN, 2)
        keep.kept[3][6] = 60
        keep.kept[5][6] = 61
        self.assertEqual(
            keep.mend(), ((6, "drop", 3), (6, "drop", 5), (6, "send", 3, 9), (6, "send", 3, 14))
        )
        self.assertEqual(keep.keepers(6), (9, 14))
        self.assertEqual((keep.get(6), keep.has(14), keep.has(3)), (60, ((6, 60),), ()))

    def test_come_known(self):
        keep = Keep(KNOWN, 1)
        for key in (5, 6, 7, 8):
            keep.put(key, key)
        self.assertEqual(keep.come(7), ((6, "drop", 9), (6, "send", 9, 7), (7, "drop", 9), (7, "send", 9, 7)))
        self.assertEqual(keep.ring(), (4, (0, 3, 5, 7, 9, 14)))
        self.assertEqual((keep.has(7), keep.has(9)), (((6, 6), (7, 7)), ((8, 8),)))

    def test_come_behind_a_fall_mends_all(self):
        # The new home and another one lack the key: both have it of the one who kept it before.
        keep = Keep(KNOWN, 3)
        keep.put(4, 40)
        keep.fall((5, 9))
        self.assertEqual(keep.come(6), ((4, "send", 14, 0), (4, "send", 14, 6)))
        self.assertEqual(keep.keepers(4), (0, 6, 14))

    def test_go_known(self):
        keep = Keep(KNOWN, 2)
        keep.put(6, 60)
        keep.put(4, 40)
        self.assertEqual(
            keep.go(9), ((4, "drop", 9), (4, "send", 5, 14), (6, "drop", 9), (6, "send", 9, 0))
        )
        self.assertEqual(keep.ring(), (4, (0, 3, 5, 14)))
        self.assertEqual((keep.keepers(4), keep.keepers(6)), ((5, 14), (0, 14)))
        self.assertRaises(NoHand, keep.has, 9)

    def test_one_that_goes_drops_also_what_all_others_keep(self):
        keep = full((2, (0, 2)), 2)
        self.assertEqual(keep.go(2), ((0, "drop", 2), (1, "drop", 2), (2, "drop", 2), (3, "drop", 2)))
        self.assertEqual(keep.has(0), ((0, 100), (1, 101), (2, 102), (3, 103)))

    def test_one_that_comes_again_keeps_what_it_is_sent_alone(self):
        keep = Keep(KNOWN, 1)
        keep.put(9, 90)
        keep.go(9)
        keep.put(9, 91)
        self.assertEqual(keep.come(9), ((9, "drop", 14), (9, "send", 14, 9)))
        self.assertEqual(keep.has(9), ((9, 91),))
        keep.fall((9,))
        self.assertEqual(keep.come(9), ())
        self.assertEqual(keep.has(9), ())

    def test_each_come_and_go_of_small_rings_against_the_words(self):
        for ring in all_rings(3):
            for copies in (1, 2, 3, 6):
                for spot in free_spots(ring):
                    keep, walked = full(ring, copies), full(ring, copies, WalkedKeep)
                    self.assertEqual(keep.come(spot), walked.come(spot))
                    self.assertEqual(keep_state(keep), keep_state(walked))
                for hand in ring[1] if len(ring[1]) > 1 else ():
                    keep, walked = full(ring, copies), full(ring, copies, WalkedKeep)
                    self.assertEqual(keep.go(hand), walked.go(hand))
                    self.assertEqual(keep_state(keep), keep_state(walked))

    def test_refused_come_changes_nothing(self):
        for copies in (1, 3):
            keep = full(KNOWN, copies)
            keep.fall((9,))
            before = keep_state(keep)
            for spot in (0, 3, 5, 14, -1, 16, 17, 1000, -16):
                self.assertRaises(NoHand, keep.come, spot)
                self.assertEqual(keep_state(keep), before)

    def test_refused_go_changes_nothing(self):
        for copies in (1, 3):
            keep = full(KNOWN, copies)
            keep.fall((9,))
            before = keep_state(keep)
            for spot in (9, 1, 2, 15, -1, 16):
                self.assertRaises(NoHand, keep.go, spot)
                self.assertEqual(keep_state(keep), before)
        alone = full((3, (5,)), 2)
        before = keep_state(alone)
        self.assertRaises(NoHand, alone.go, 5)
        self.assertEqual(keep_state(alone), before)


class Fall(unittest.TestCase):
    def test_known(self):
        keep = Keep(KNOWN, 2)
        for key in (15, 4, 6, 2):
            keep.put(key, key)
        self.assertEqual(keep.fall((5,)), ())
        self.assertEqual(keep.ring(), (4, (0, 3, 9, 14)))
        self.assertEqual(keep.keepers(4), (9,))
        self.assertEqual(keep.fall((3, 9)), (2, 4))
        self.assertEqual(keep.ring(), (4, (0, 14)))
        self.assertEqual([keep.keepers(key) for key in (2, 4, 6, 15)], [(), (), (14,), (0,)])
        self.assertRaises(NoKey, keep.get, 4)

    def test_of_none(self):
        keep = full(KNOWN, 1)
        before = keep_state(keep)
        self.assertEqual(keep.fall(()), ())
        self.assertEqual(keep_state(keep), before)

    def test_each_fall_of_small_rings_against_the_words(self):
        for ring in list(all_rings(3))[::2]:
            for many in range(1, len(ring[1])):
                for hands in itertools.combinations(ring[1], many):
                    for copies in (1, 2, 4):
                        keep, walked = full(ring, copies), full(ring, copies, WalkedKeep)
                        self.assertEqual(keep.fall(hands), walked.fall(hands))
                        self.assertEqual(keep_state(keep), keep_state(walked))

    def test_what_was_lost_before_is_not_told_again(self):
        keep = Keep(KNOWN, 1)
        keep.put(4, 4)
        keep.put(6, 6)
        self.assertEqual(keep.fall((5,)), (4,))
        self.assertEqual(keep.fall((9,)), (6,))
        self.assertEqual(keep.mend(), ())

    def test_refused_fall_changes_nothing(self):
        keep = full(KNOWN, 2)
        before = keep_state(keep)
        for hands in ((1,), (0, 1), (1, 3), (3, 5, 15), (-1, 0), (0, 16), (0, 3, 5, 9, 14), (0, 3, 5, 9, 14, 15)):
            with self.assertRaises(NoHand) as caught:
                keep.fall(hands)
            self.assertNotIsInstance(caught.exception, NoKey)
            self.assertEqual(keep_state(keep), before)
        alone = full((3, (5,)), 2)
        before = keep_state(alone)
        self.assertRaises(NoHand, alone.fall, (5,))
        self.assertEqual(keep_state(alone), before)


class RowsOfActs(unittest.TestCase):
    def test_against_the_words_step_by_step(self):
        choice = random.Random(5)
        for ring in small_rings()[::6] + MIDDLE:
            for copies in range(1, 7):
                keep, walked = full(ring, copies), full(ring, copies, WalkedKeep)
                for _ in range(14):
                    act, given = choose_act(choice, keep.ring())
                    told = getattr(keep, act)(*given)
                    self.assertEqual(told, getattr(walked, act)(*given), (act, given))
                    self.assertEqual(keep_state(keep), keep_state(walked))

    def test_larger_rings_against_the_words(self):
        choice = random.Random(6)
        for ring in [ring for ring in large_rings() if ring[0] > 5 and len(ring[1]) in (1, 3, 12, 16)]:
            copies = choice.randrange(1, 7)
            keep, walked = full(ring, copies), full(ring, copies, WalkedKeep)
            for _ in range(4):
                act, given = choose_act(choice, keep.ring())
                self.assertEqual(getattr(keep, act)(*given), getattr(walked, act)(*given), (act, given))
            self.assertEqual(keep_state(keep), keep_state(walked))

    def test_ring_behind_each_act(self):
        keep = full(KNOWN, 2)
        keep.come(7)
        self.assertEqual(keep.ring(), (4, (0, 3, 5, 7, 9, 14)))
        keep.go(0)
        self.assertEqual(keep.ring(), (4, (3, 5, 7, 9, 14)))
        keep.fall((3, 14))
        self.assertEqual(keep.ring(), (4, (5, 7, 9)))
        keep.mend()
        keep.put(3, 3)
        self.assertEqual(keep.ring(), (4, (5, 7, 9)))

    def test_a_ring_may_come_to_have_more_than_twelve_hands(self):
        keep = full((4, tuple(range(12))), 3)
        for spot in (15, 12, 14, 13):
            keep.come(spot)
        self.assertEqual(keep.ring(), (4, tuple(range(16))))
        for key in range(16):
            self.assertEqual(keep.keepers(key), tuple(sorted((key + k) % 16 for k in range(3))))


class NothingIsLost(unittest.TestCase):
    """0.2 (c) and (d)."""

    def act(self, choice, keep, copies, last):
        """One act, mended behind; what the keep was just before the papers, and these."""
        ring = keep.ring()
        act = choice.choice(("put", "come", "go", "fall", "fall"))
        if act == "put":
            key, value = choice.randrange(spots_of(ring)), choice.randrange(10 ** 6)
            keep.put(key, value)
            last[key] = value
        before = self.kept(keep)
        papers = []
        if act == "come" and free_spots(ring):
            papers.append(keep.come(choice.choice(free_spots(ring))))
        if act == "go" and len(ring[1]) > 1:
            papers.append(keep.go(choice.choice(ring[1])))
        if act == "fall":
            many = choice.randrange(min(copies, len(ring[1])))
            self.assertEqual(keep.fall(tuple(sorted(choice.sample(ring[1], many)))), ())
            before = self.kept(keep)
            papers.append(keep.mend())
        self.assertEqual(keep.mend(), ())
        return before, papers

    def kept(self, keep):
        return {(hand, key): value for hand in keep.ring()[1] for key, value in keep.has(hand)}

    def assert_sent_is_what_is_lacked(self, keep, copies, before, papers):
        """Each lacking holder is sent each key once, by one that had it."""
        lacked = []
        for key in sorted({key for _, key in before}):
            for taker in hands_met(keep.ring(), key)[:copies]:
                lacked += [] if (taker, key) in before else [(key, taker)]
        sends = [line for paper in papers for line in paper if line[1] == "send"]
        self.assertEqual(sorted((key, taker) for key, _, _, taker in sends), sorted(lacked))
        for key, _, giver, taker in sends:
            self.assertIn((giver, key), before)
            self.assertNotIn((taker, key), before)

    def test_over_rows_of_acts(self):
        choice = random.Random(7)
        for ring in small_rings()[::11] + MIDDLE:
            for copies in range(1, 7):
                keep, last = Keep(ring, copies), {}
                for _ in range(25):
                    before, papers = self.act(choice, keep, copies, last)
                    self.assert_sent_is_what_is_lacked(keep, copies, before, papers)
                    for key in range(spots_of(ring)):
                        if key in last:
                            self.assertEqual(keep.get(key), last[key])
                            self.assertEqual(keep.keepers(key), tuple(sorted(hands_met(keep.ring(), key)[:copies])))
                        else:
                            self.assertRaises(NoKey, keep.get, key)


if __name__ == "__main__":
    unittest.main()
