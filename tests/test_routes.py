"""Fingers and routes (0.2 (b), 2.1, 2.2)."""

import unittest

from ringkeep.rings import came, home_of, next_hand
from ringkeep.routes import fingers, most_hops, route
from tests.walks import all_rings, hands_met, large_rings, rings_beyond, small_rings, spots_of, step, steps_between


def walked_fingers(ring, hand):
    told = []
    for k in range(ring[0]):
        spot = hand
        for _ in range(2 ** k):
            spot = step(ring, spot)
        told.append(hands_met(ring, spot)[0])
    return tuple(told)


def walked_route(ring, hand, key):
    """The point's own words, by walks alone."""
    if key == hand:
        return (hand,)
    path = [hand]
    while True:
        here = path[-1]
        key_far = steps_between(ring, here, key)
        ways = []
        for finger in walked_fingers(ring, here):
            far = steps_between(ring, here, finger)
            if finger != here and far <= key_far:
                ways.append((far, finger))
        if not ways:
            path.append(hands_met(ring, step(ring, here))[0])
            return tuple(path)
        path.append(max(ways)[1])
        if path[-1] == key:
            return tuple(path)


class Fingers(unittest.TestCase):
    def test_known(self):
        self.assertEqual(fingers((3, (1, 4, 6)), 1), (4, 4, 6))
        self.assertEqual(fingers((3, (1, 4, 6)), 4), (6, 6, 1))
        self.assertEqual(fingers((3, (1, 4, 6)), 6), (1, 1, 4))
        self.assertEqual(fingers((4, (0, 3, 9)), 9), (0, 0, 0, 3))

    def test_against_a_walk(self):
        for ring in small_rings() + large_rings() + rings_beyond():
            for hand in ring[1]:
                told = fingers(ring, hand)
                self.assertEqual(len(told), ring[0])
                self.assertEqual(told[0], next_hand(ring, hand))
                self.assertEqual(told, walked_fingers(ring, hand))

    def test_a_hand_alone(self):
        for beat in range(2, 8):
            for spot in (0, 1, 2 ** beat - 1):
                self.assertEqual(fingers((beat, (spot,)), spot), (spot,) * beat)

    def test_the_hand_itself_among_them(self):
        self.assertEqual(fingers((3, (0, 1)), 0), (1, 0, 0))


class Routes(unittest.TestCase):
    def test_known(self):
        ring = (4, (0, 3, 5, 9, 14))
        self.assertEqual(route(ring, 0, 0), (0,))
        self.assertEqual(route(ring, 0, 1), (0, 3))
        self.assertEqual(route(ring, 0, 3), (0, 3))
        self.assertEqual(route(ring, 0, 4), (0, 3, 5))
        self.assertEqual(route(ring, 0, 9), (0, 9))
        self.assertEqual(route(ring, 0, 15), (0, 9, 14, 0))
        self.assertEqual(route(ring, 5, 4), (5, 14, 3, 5))

    def test_by_the_words(self):
        for ring in small_rings() + rings_beyond()[:3]:
            for hand in ring[1]:
                for key in range(spots_of(ring)):
                    self.assertEqual(route(ring, hand, key), walked_route(ring, hand, key))

    def test_by_the_words_on_some_larger_rings(self):
        for ring in [ring for ring in large_rings() if ring[0] < 6 or len(ring[1]) < 6]:
            for hand in ring[1][:6]:
                for key in range(0, spots_of(ring), 5):
                    self.assertEqual(route(ring, hand, key), walked_route(ring, hand, key))

    def test_ends_at_the_home_in_few_hops(self):
        some = [ring for place, ring in enumerate(all_rings(4)) if place % 97 == 0]
        for ring in small_rings() + some + large_rings() + rings_beyond():
            for hand in ring[1]:
                for key in range(spots_of(ring)):
                    told = route(ring, hand, key)
                    self.assertEqual(told[0], hand)
                    self.assertEqual(told[-1], home_of(ring, key))
                    self.assertLessEqual(len(told) - 1, ring[0] + 1)

    def test_a_key_that_is_the_own_spot(self):
        for ring in small_rings() + large_rings():
            for hand in ring[1]:
                self.assertEqual(route(ring, hand, hand), (hand,))

    def test_a_hand_alone_goes_on_to_itself(self):
        for beat in range(2, 8):
            ring = (beat, (1,))
            for key in range(2 ** beat):
                self.assertEqual(route(ring, 1, key), (1,) if key == 1 else (1, 1))

    def test_more_than_twelve_hands(self):
        ring = came((4, tuple(range(12))), 13)
        self.assertEqual(route(ring, 0, 12), (0, 8, 10, 11, 13))


class MostHops(unittest.TestCase):
    def greatest(self, ring):
        return max(len(route(ring, hand, key)) - 1 for hand in ring[1] for key in range(spots_of(ring)))

    def test_greatest_of_all_routes(self):
        some = [ring for place, ring in enumerate(all_rings(4)) if place % 197 == 0]
        few = [ring for ring in large_rings() if len(ring[1]) <= 16]
        for ring in small_rings() + some + few + rings_beyond():
            self.assertEqual(most_hops(ring), self.greatest(ring))

    def test_known(self):
        self.assertEqual(most_hops((2, (0,))), 1)
        self.assertEqual(most_hops((2, (0, 2))), 2)
        self.assertEqual(most_hops((7, (100,))), 1)

    def test_a_hand_at_every_spot(self):
        for beat in range(2, 8):
            self.assertEqual(most_hops((beat, tuple(range(2 ** beat)))), beat)

    def test_never_more_than_one_more_than_the_beat(self):
        for ring in small_rings() + large_rings():
            self.assertLessEqual(most_hops(ring), ring[0] + 1)


if __name__ == "__main__":
    unittest.main()
