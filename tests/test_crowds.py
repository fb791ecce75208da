"""Crowds: who knows whom, what is found, and how a crowd settles (0.2 (f), 5.1 to 5.5)."""

import itertools
import random
import unittest

from ringkeep.crowds import Crowd
from ringkeep.errors import NoHand, NoKey
from ringkeep.routes import fingers
from tests.walks import WalkedCrowd, all_rings, hands_met, large_rings, rings_beyond, small_rings, spots_of

KNOWN = (4, (0, 3, 5, 9, 14))
MIDDLE = [ring for ring in large_rings() if ring[0] == 4]
FEW = list(all_rings(3))[::5]


def state(crowd):
    hands = crowd.standing()
    return hands, tuple(crowd.knows(hand) for hand in hands), tuple(crowd.points(hand) for hand in hands)


def ring_now(ring, crowd):
    return (ring[0], crowd.standing())


def places_to_come(ring, crowd):
    return [spot for spot in range(spots_of(ring)) if spot not in crowd.standing()]


def longest_fallen(ring, fallen):
    """How many hands side by side have fallen, at the most."""
    met = ring[1] + ring[1]
    most = 0
    for place in range(len(met)):
        many = 0
        while place + many < len(met) and met[place + many] in fallen:
            many += 1
        most = max(most, many)
    return most


def mild_falls(ring, reach):
    """All sets of hands of which fewer stand side by side than each hand knows."""
    knows = min(reach, len(ring[1]) - 1)
    for many in range(len(ring[1])):
        for fallen in itertools.combinations(ring[1], many):
            if longest_fallen(ring, fallen) < knows:
                yield fallen


def tidy_round(choice, crowd):
    hands = list(crowd.standing())
    choice.shuffle(hands)
    for hand in hands:
        crowd.tidy(hand)


def assert_refused(test, crowd, act, given):
    before = state(crowd)
    with test.assertRaises(NoHand) as caught:
        getattr(crowd, act)(*given)
    test.assertNotIsInstance(caught.exception, NoKey)
    test.assertEqual(state(crowd), before)


class New(unittest.TestCase):
    def test_known(self):
        crowd = Crowd(KNOWN, 2)
        self.assertEqual(crowd.standing(), (0, 3, 5, 9, 14))
        self.assertEqual(crowd.knows(0), (3, 5))
        self.assertEqual(crowd.knows(9), (14, 0))
        self.assertEqual(crowd.knows(14), (0, 3))
        self.assertEqual(crowd.points(0), (3, 3, 5, 9))
        self.assertEqual(crowd.points(9), (14, 14, 14, 3))
        self.assertIs(crowd.settled(), True)
        self.assertEqual(Crowd(KNOWN, 5).knows(5), (9, 14, 0, 3))
        self.assertEqual(Crowd(KNOWN, 1).knows(14), (0,))

    def test_against_a_walk(self):
        for ring in small_rings() + large_rings() + rings_beyond():
            for reach in (1, 2, 3, 4, 5, 6):
                crowd = Crowd(ring, reach)
                self.assertEqual(crowd.standing(), ring[1])
                for hand in ring[1]:
                    self.assertEqual(crowd.knows(hand), tuple(hands_met(ring, hand)[1:reach + 1]))
                    self.assertEqual(crowd.points(hand), fingers(ring, hand))

    def test_a_new_crowd_is_settled(self):
        for ring in small_rings() + large_rings():
            self.assertIs(Crowd(ring, 3).settled(), True)

    def test_a_hand_alone(self):
        for beat in range(2, 8):
            for reach in range(1, 6):
                crowd = Crowd((beat, (1,)), reach)
                self.assertEqual(crowd.standing(), (1,))
                self.assertEqual(crowd.knows(1), ())
                self.assertEqual(crowd.points(1), (1,) * beat)
                self.assertIs(crowd.settled(), True)
                for key in range(2 ** beat):
                    self.assertEqual(crowd.find(1, key), (1,))
                self.assertIsNone(crowd.tidy(1))
                self.assertEqual(state(crowd), ((1,), ((),), ((1,) * beat,)))

    def test_two_crowds_have_nothing_in_common(self):
        one, other = Crowd(KNOWN, 2), Crowd(KNOWN, 2)
        one.fall((3,))
        one.tidy(0)
        self.assertEqual(state(other), state(Crowd(KNOWN, 2)))

    def test_no_hand_of_one_that_does_not_stand(self):
        crowd = Crowd(KNOWN, 2)
        crowd.fall((9,))
        for spot in (9, 1, 15, -1, 16, 100):
            for act, given in (("knows", ()), ("points", ()), ("find", (4,)), ("find", (spot,)), ("tidy", ())):
                assert_refused(self, crowd, act, (spot,) + given)
            assert_refused(self, crowd, "come", (7, spot))


class Fall(unittest.TestCase):
    def test_nobody_else_learns_of_it(self):
        for reach in range(1, 6):
            for many in range(5):
                for hands in itertools.combinations(KNOWN[1], many):
                    crowd, before = Crowd(KNOWN, reach), Crowd(KNOWN, reach)
                    self.assertIsNone(crowd.fall(hands))
                    self.assertEqual(crowd.standing(), tuple(hand for hand in KNOWN[1] if hand not in hands))
                    for hand in crowd.standing():
                        self.assertEqual(crowd.knows(hand), before.knows(hand))
                        self.assertEqual(crowd.points(hand), before.points(hand))

    def test_one_behind_the_other(self):
        crowd = Crowd(KNOWN, 2)
        crowd.fall((3,))
        crowd.fall((0, 9))
        self.assertEqual(crowd.standing(), (5, 14))
        self.assertEqual(crowd.knows(14), (0, 3))

    def test_no_hand(self):
        crowd = Crowd(KNOWN, 2)
        for hands in ((1,), (0, 1), (1, 3), (-1, 0), (0, 16), (0, 3, 5, 9, 14), (0, 3, 5, 9, 14, 15)):
            assert_refused(self, crowd, "fall", (hands,))
        crowd.fall((3, 9))
        for hands in ((3,), (0, 3), (5, 9, 14), (0, 5, 14), (0, 3, 5, 9, 14)):
            assert_refused(self, crowd, "fall", (hands,))
        assert_refused(self, Crowd((3, (5,)), 2), "fall", ((5,),))


class Find(unittest.TestCase):
    def test_known(self):
        crowd = Crowd(KNOWN, 2)
        self.assertEqual(crowd.find(0, 0), (0,))
        self.assertEqual(crowd.find(0, 1), (0, 3))
        self.assertEqual(crowd.find(0, 3), (0, 3))
        self.assertEqual(crowd.find(0, 4), (0, 3, 5))
        self.assertEqual(crowd.find(0, 9), (0, 9))
        self.assertEqual(crowd.find(0, 15), (0, 9, 14, 0))
        self.assertEqual(crowd.find(5, 4), (5, 14, 3, 5))
        crowd.fall((9,))
        self.assertEqual(crowd.find(0, 9), (0, 5, 14))
        self.assertEqual(crowd.find(0, 6), (0, 5, 14))
        self.assertEqual(crowd.find(5, 9), (5, 14))

    def test_farther_known_than_pointed_to(self):
        # 0 points no farther than 9, and knows 14 too.
        crowd = Crowd(KNOWN, 5)
        self.assertEqual(crowd.points(0), (3, 3, 5, 9))
        self.assertEqual(crowd.find(0, 14), (0, 14))
        self.assertEqual(crowd.find(0, 15), (0, 14, 0))

    def test_one_that_knows_nobody_that_stands_ends_it(self):
        crowd = Crowd(KNOWN, 2)
        crowd.fall((3, 5))
        self.assertEqual(crowd.points(0), (3, 3, 5, 9))
        for key in range(16):
            self.assertEqual(crowd.find(0, key), (0,))
        self.assertEqual(crowd.find(14, 4), (14, 0))
        self.assertEqual(crowd.find(9, 4), (9, 0))
        self.assertEqual(crowd.find(9, 15), (9, 14, 0))

    def test_by_the_words_settled_and_behind_falls(self):
        for ring in FEW:
            for reach in (1, 2, 3, 5):
                for many in range(len(ring[1])):
                    for fallen in itertools.combinations(ring[1], many):
                        self.assert_all_found_by_the_words(ring, reach, fallen)

    def test_by_the_words_on_larger_rings(self):
        choice = random.Random(12)
        for ring in MIDDLE + [(5, (0, 1, 2, 9, 17, 18, 25, 30, 31))]:
            for reach in (1, 2, 4):
                fallen = tuple(sorted(choice.sample(ring[1], choice.randrange(len(ring[1])))))
                self.assert_all_found_by_the_words(ring, reach, fallen)

    def assert_all_found_by_the_words(self, ring, reach, fallen):
        crowd, walked = Crowd(ring, reach), WalkedCrowd(ring, reach)
        crowd.fall(fallen)
        walked.fall(fallen)
        for hand in crowd.standing():
            for key in range(spots_of(ring)):
                self.assertEqual(crowd.find(hand, key), walked.find(hand, key), (ring, reach, fallen, hand, key))

    def test_finding_changes_nothing(self):
        crowd = Crowd(KNOWN, 3)
        crowd.fall((5, 9))
        before = state(crowd)
        for hand in crowd.standing():
            for key in range(16):
                crowd.find(hand, key)
        self.assertEqual(state(crowd), before)

    def test_own_spot(self):
        for ring in small_rings():
            for hand in ring[1]:
                self.assertEqual(Crowd(ring, 2).find(hand, hand), (hand,))


class Come(unittest.TestCase):
    def test_known(self):
        crowd = Crowd(KNOWN, 2)
        self.assertEqual(crowd.come(7, 0), (0, 5, 9))
        self.assertEqual(crowd.standing(), (0, 3, 5, 7, 9, 14))
        self.assertEqual((crowd.knows(7), crowd.points(7)), ((9, 14), (9, 9, 9, 9)))
        self.assertEqual(crowd.knows(5), (7, 9))
        for hand in (0, 3, 9, 14):
            self.assertEqual(crowd.knows(hand), Crowd(KNOWN, 2).knows(hand))
        for hand in KNOWN[1]:
            self.assertEqual(crowd.points(hand), Crowd(KNOWN, 2).points(hand))
        self.assertIs(crowd.settled(), False)

    def test_reach_beyond_all_others(self):
        crowd = Crowd(KNOWN, 5)
        self.assertEqual(crowd.come(7, 5), (5, 9))
        self.assertEqual(crowd.knows(7), (9, 14, 0, 3, 5))
        self.assertEqual(crowd.knows(5), (7, 9, 14, 0, 3))
        self.assertEqual(crowd.come(8, 5), (5, 7, 9))
        self.assertEqual(crowd.knows(8), (9, 14, 0, 3, 5))
        self.assertEqual(crowd.knows(7), (8, 9, 14, 0, 3))

    def test_to_one_that_is_alone(self):
        crowd = Crowd((3, (5,)), 2)
        self.assertEqual(crowd.come(2, 5), (5,))
        self.assertEqual(state(crowd), ((2, 5), ((5,), (2,)), ((5, 5, 5), (5, 5, 5))))
        self.assertEqual(crowd.come(7, 5), (5, 2))
        self.assertEqual((crowd.knows(7), crowd.knows(5), crowd.knows(2)), ((2, 5), (7, 2), (5,)))

    def test_to_one_that_knows_nobody_that_stands(self):
        crowd = Crowd(KNOWN, 2)
        crowd.fall((3, 5))
        self.assertEqual(crowd.come(8, 0), (0,))
        self.assertEqual((crowd.knows(8), crowd.knows(0)), ((0,), (8,)))
        self.assertEqual(crowd.points(8), (0, 0, 0, 0))

    def test_those_that_have_fallen_are_left_out(self):
        crowd = Crowd(KNOWN, 3)
        crowd.fall((5, 14))
        self.assertEqual(crowd.come(7, 0), (0, 3, 9))
        self.assertEqual(crowd.knows(7), (9, 0, 3))
        self.assertEqual(crowd.knows(3), (7, 9))
        self.assertEqual(crowd.knows(0), (3, 5, 9))

    def test_to_a_spot_where_one_has_fallen(self):
        # 3 and 0 know the fallen 5 yet: 3 knows the new one once alone, and 0 sees that one stands there again.
        crowd = Crowd(KNOWN, 3)
        crowd.fall((5,))
        self.assertEqual(crowd.come(5, 14), (14, 3, 9))
        self.assertEqual(crowd.knows(5), (9, 14, 0))
        self.assertEqual(crowd.points(5), (9, 9, 9, 9))
        self.assertEqual(crowd.knows(3), (5, 9, 14))
        self.assertEqual(crowd.knows(0), (3, 5, 9))
        self.assertEqual(crowd.find(0, 5), (0, 5))

    def test_last_may_know_one_that_fell_at_the_spot(self):
        # 3 knows the fallen 0: the new one at 0 does not know itself.
        crowd = Crowd((3, (0, 3)), 2)
        crowd.fall((0,))
        self.assertEqual(crowd.come(0, 3), (3,))
        self.assertEqual((crowd.knows(0), crowd.knows(3)), ((3,), (0,)))

    def test_each_come_by_the_words(self):
        for ring in FEW:
            for reach in (1, 2, 5):
                for many in range(min(3, len(ring[1]))):
                    for fallen in itertools.combinations(ring[1], many):
                        for spot in range(8):
                            self.assert_comes_by_the_words(ring, reach, fallen, spot)

    def assert_comes_by_the_words(self, ring, reach, fallen, spot):
        stand = [hand for hand in ring[1] if hand not in fallen]
        for hand in stand if spot not in stand else ():
            crowd, walked = Crowd(ring, reach), WalkedCrowd(ring, reach)
            crowd.fall(fallen)
            walked.fall(fallen)
            before = crowd.find(hand, spot)
            told = crowd.come(spot, hand)
            self.assertEqual(told, before)
            self.assertEqual(told, walked.come(spot, hand))
            self.assertEqual(state(crowd), state(walked))

    def test_no_hand(self):
        crowd = Crowd(KNOWN, 2)
        crowd.fall((9,))
        for spot in (0, 3, 5, 14, -1, 16, 100, -16):
            assert_refused(self, crowd, "come", (spot, 3))
        for hand in (9, 1, 7, -1, 16):
            assert_refused(self, crowd, "come", (7, hand))
            assert_refused(self, crowd, "come", (9, hand))


class Tidy(unittest.TestCase):
    def test_known(self):
        crowd = Crowd(KNOWN, 3)
        crowd.fall((3, 9))
        self.assertIsNone(crowd.tidy(0))
        self.assertEqual((crowd.knows(0), crowd.points(0)), ((5, 14), (5, 5, 5, 14)))
        self.assertIsNone(crowd.tidy(14))
        self.assertEqual((crowd.knows(14), crowd.points(14)), ((0, 5), (0, 0, 5, 14)))
        self.assertEqual(crowd.knows(5), (9, 14, 0))
        self.assertIs(crowd.settled(), False)
        crowd.tidy(5)
        self.assertEqual((crowd.knows(5), crowd.points(5)), ((14, 0), (14, 14, 14, 14)))
        self.assertIs(crowd.settled(), True)

    def test_one_that_knows_nobody(self):
        crowd = Crowd(KNOWN, 2)
        crowd.fall((3, 5))
        self.assertIsNone(crowd.tidy(0))
        self.assertEqual((crowd.knows(0), crowd.points(0)), ((), (0, 0, 0, 0)))
        self.assertEqual(crowd.knows(9), (14, 0))

    def test_one_that_is_left_alone(self):
        crowd = Crowd(KNOWN, 5)
        crowd.fall((0, 3, 5, 14))
        self.assertIs(crowd.settled(), False)
        self.assertIsNone(crowd.tidy(9))
        self.assertEqual(state(crowd), ((9,), ((),), ((9, 9, 9, 9),)))
        self.assertIs(crowd.settled(), True)

    def test_nobody_else_changes(self):
        crowd = Crowd(KNOWN, 3)
        crowd.fall((3,))
        crowd.come(7, 0)
        for hand in crowd.standing():
            others = [other for other in crowd.standing() if other != hand]
            before = [(crowd.knows(other), crowd.points(other)) for other in others]
            crowd.tidy(hand)
            self.assertEqual([(crowd.knows(other), crowd.points(other)) for other in others], before)

    def test_itself_is_left_out(self):
        crowd = Crowd((3, (0, 2, 5)), 5)
        for hand in (0, 2, 5):
            crowd.tidy(hand)
        self.assertEqual(state(crowd), state(Crowd((3, (0, 2, 5)), 5)))

    def test_it_finds_by_what_it_knows_anew(self):
        # 4 knows nobody that stands, so whoever comes to it ends there; by way of 3 it is learned that 6 has come.
        crowd = Crowd((3, (0, 1, 2, 3, 4, 5)), 3)
        crowd.fall((0, 1, 5))
        self.assertEqual(crowd.come(6, 3), (3, 4))
        self.assertEqual((crowd.knows(3), crowd.find(2, 6)), ((6, 4), (2, 4)))
        crowd.tidy(2)
        self.assertEqual((crowd.knows(2), crowd.points(2)), ((3, 6, 4), (3, 4, 6)))

    def test_rows_of_acts_by_the_words(self):
        # Also of crowds that are torn by falls of many: there it shows what is found ahead of what.
        choice = random.Random(13)
        for ring in small_rings()[::4] + MIDDLE:
            for reach in range(1, 6):
                crowd, walked = Crowd(ring, reach), WalkedCrowd(ring, reach)
                for _ in range(16):
                    act, given = self.choose(choice, ring, crowd)
                    self.assertEqual(getattr(crowd, act)(*given), getattr(walked, act)(*given), (ring, act, given))
                    self.assertEqual(state(crowd), state(walked), (ring, reach, act, given))
                    self.assertIs(crowd.settled(), walked.settled())

    def choose(self, choice, ring, crowd):
        hands = crowd.standing()
        act = choice.choice(("tidy", "tidy", "tidy", "come", "come", "fall", "find"))
        if act == "come" and len(hands) < spots_of(ring):
            return act, (choice.choice(places_to_come(ring, crowd)), choice.choice(hands))
        if act == "fall":
            return act, (tuple(sorted(choice.sample(hands, choice.randrange((len(hands) + 1) // 2)))),)
        if act == "find":
            return act, (choice.choice(hands), choice.randrange(spots_of(ring)))
        return "tidy", (choice.choice(hands),)


class Settled(unittest.TestCase):
    def test_fallen_ones_that_are_still_known_count(self):
        # 0 points to none who fell, but knows one yet.
        crowd = Crowd((4, (0, 1, 2, 3, 8)), 3)
        crowd.fall((3,))
        new = Crowd((4, (0, 1, 2, 8)), 3)
        for hand in (8, 2, 1, 8, 2, 1):
            crowd.tidy(hand)
        self.assertEqual((crowd.knows(0), new.knows(0)), ((1, 2, 3), (1, 2, 8)))
        self.assertEqual(crowd.points(0), new.points(0))
        self.assert_just_0_lacks(crowd, new)

    def test_fallen_ones_that_are_still_pointed_to_count(self):
        # 0 knows none who fell, but points to one yet.
        crowd = Crowd((4, (0, 2, 4, 12)), 2)
        crowd.fall((12,))
        new = Crowd((4, (0, 2, 4)), 2)
        for hand in (4, 2):
            crowd.tidy(hand)
        self.assertEqual(crowd.knows(0), new.knows(0))
        self.assertEqual((crowd.points(0), new.points(0)), ((2, 2, 4, 12), (2, 2, 4, 0)))
        self.assert_just_0_lacks(crowd, new)

    def assert_just_0_lacks(self, crowd, new):
        self.assertEqual([part[1:] for part in state(crowd)], [part[1:] for part in state(new)])
        self.assertIs(crowd.settled(), False)
        crowd.tidy(0)
        self.assertIs(crowd.settled(), True)
        self.assertEqual(state(crowd), state(new))

    def test_fallen_ones_known_beyond_those_that_are_to_be_known_count(self):
        crowd = Crowd((2, (0, 2)), 1)
        crowd.fall((2,))
        self.assertEqual(crowd.knows(0), (2,))
        self.assertIs(crowd.settled(), False)

    def test_by_the_words(self):
        choice = random.Random(14)
        for ring in FEW + MIDDLE:
            for reach in range(1, 6):
                crowd, walked = Crowd(ring, reach), WalkedCrowd(ring, reach)
                self.assertIs(walked.settled(), True)
                many = choice.randrange(len(ring[1]))
                fallen = tuple(sorted(choice.sample(ring[1], many)))
                crowd.fall(fallen)
                walked.fall(fallen)
                self.assertIs(crowd.settled(), walked.settled())
                order = list(crowd.standing()) * 2
                choice.shuffle(order)
                for hand in order:
                    crowd.tidy(hand)
                    walked.tidy(hand)
                    self.assertIs(crowd.settled(), walked.settled())

    def test_asking_changes_nothing(self):
        crowd = Crowd(KNOWN, 2)
        crowd.fall((9,))
        before = state(crowd)
        crowd.settled()
        self.assertEqual(state(crowd), before)


class Promise(unittest.TestCase):
    """0.2 (f)."""

    def assert_all_found(self, ring, crowd):
        now = ring_now(ring, crowd)
        for key in range(spots_of(ring)):
            first = hands_met(now, key)[0]
            for hand in crowd.standing():
                self.assertEqual(crowd.find(hand, key)[-1], first)

    def assert_settles(self, choice, ring, crowd, rounds):
        for _ in range(rounds):
            tidy_round(choice, crowd)
        self.assertIs(crowd.settled(), True)
        self.assertEqual(state(crowd), state(Crowd(ring_now(ring, crowd), rounds)))

    def test_a_settled_crowd_finds_all(self):
        for ring in small_rings() + MIDDLE:
            for reach in (1, 3):
                self.assert_all_found(ring, Crowd(ring, reach))

    def test_each_mild_fall_of_small_rings(self):
        choice = random.Random(15)
        for ring in FEW + [KNOWN]:
            for reach in range(1, 6):
                for fallen in mild_falls(ring, reach):
                    crowd = Crowd(ring, reach)
                    crowd.fall(fallen)
                    self.assert_all_found(ring, crowd)
                    self.assert_settles(choice, ring, crowd, reach)

    def test_also_when_hands_have_come(self):
        choice = random.Random(16)
        for ring in FEW[::2] + MIDDLE:
            for reach in range(1, 6):
                falls = [()] if len(ring[1]) > 8 else list(mild_falls(ring, reach))[-3:]
                for fallen in falls:
                    crowd = Crowd(ring, reach)
                    crowd.fall(fallen)
                    for _ in range(choice.randrange(1, 5)):
                        free = places_to_come(ring, crowd)
                        if free:
                            crowd.come(choice.choice(free), choice.choice(crowd.standing()))
                            self.assert_all_found(ring, crowd)
                    self.assert_settles(choice, ring, crowd, reach)

    def test_again_and_again(self):
        choice = random.Random(17)
        for ring in MIDDLE[:6]:
            for reach in (1, 2, 3, 5):
                crowd = Crowd(ring, reach)
                for _ in range(6):
                    now = ring_now(ring, crowd)
                    fallen = tuple(sorted(choice.sample(now[1], choice.randrange(len(now[1])))))
                    if longest_fallen(now, fallen) < min(reach, len(now[1]) - 1):
                        crowd.fall(fallen)
                    free = places_to_come(ring, crowd)
                    for spot in choice.sample(free, min(2, len(free))):
                        crowd.come(spot, choice.choice(crowd.standing()))
                    self.assert_all_found(ring, crowd)
                    self.assert_settles(choice, ring, crowd, reach)

    def test_larger_rings(self):
        choice = random.Random(18)
        for ring in [ring for ring in large_rings() if ring[0] > 5 and len(ring[1]) in (2, 12, 16)]:
            crowd = Crowd(ring, 3)
            fallen = ring[1][::3] if len(ring[1]) > 6 else ()
            crowd.fall(fallen)
            for spot in choice.sample(places_to_come(ring, crowd), 3):
                crowd.come(spot, choice.choice(crowd.standing()))
            self.assert_all_found(ring, crowd)
            self.assert_settles(choice, ring, crowd, 3)


if __name__ == "__main__":
    unittest.main()
