"""Distances, homes, holders, spans, and hands that come and go (0.2 (a), 1.1 to 1.3)."""

import unittest

from ringkeep.errors import NoHand, NoKey
from ringkeep.rings import came, holders, home_of, how_far, is_ring, next_hand, span_of, went
from tests.walks import (
    all_rings, free_spots, hands_met, homes, large_rings, rings_beyond, small_rings, spots_of, step, steps_between,
)

ALL = small_rings() + large_rings() + rings_beyond()


class HowFar(unittest.TestCase):
    def test_step_by_step(self):
        for beat in range(1, 8):
            ring = (beat, (0,))
            for one in range(2 ** beat):
                for other in range(2 ** beat):
                    self.assertEqual(how_far(ring, one, other), steps_between(ring, one, other))

    def test_to_itself_and_across_the_end(self):
        self.assertEqual(how_far((3, (0, 5)), 6, 6), 0)
        self.assertEqual(how_far((3, (0, 5)), 7, 0), 1)
        self.assertEqual(how_far((3, (0, 5)), 0, 7), 7)
        self.assertEqual(how_far((3, (0, 5)), 6, 5), 7)
        self.assertEqual(how_far((7, (3,)), 120, 8), 16)

    def test_hands_do_not_matter(self):
        for ring in all_rings(2):
            self.assertEqual(how_far(ring, 3, 1), 2)


class Homes(unittest.TestCase):
    def test_known_ring(self):
        ring = (3, (1, 4, 6))
        self.assertEqual([home_of(ring, key) for key in range(8)], [1, 1, 4, 4, 4, 6, 6, 1])
        self.assertEqual(holders(ring, 5, 1), (6,))
        self.assertEqual(holders(ring, 5, 2), (6, 1))
        self.assertEqual(holders(ring, 5, 3), (6, 1, 4))
        self.assertEqual(holders(ring, 5, 6), (6, 1, 4))
        self.assertEqual([next_hand(ring, hand) for hand in (1, 4, 6)], [4, 6, 1])

    def test_against_a_walk(self):
        for ring in ALL:
            for key in range(spots_of(ring)):
                met = hands_met(ring, key)
                self.assertEqual(home_of(ring, key), met[0])
                for copies in range(1, 7):
                    self.assertEqual(holders(ring, key, copies), tuple(met[:copies]))

    def test_the_home_is_least_far(self):
        for ring in small_rings():
            for key in range(spots_of(ring)):
                least = min(how_far(ring, key, hand) for hand in ring[1])
                self.assertEqual(how_far(ring, key, home_of(ring, key)), least)

    def test_copies_beyond(self):
        for ring in large_rings():
            for copies in (0, 7, 9, 13, 200):
                self.assertEqual(holders(ring, 3, copies), tuple(hands_met(ring, 3)[:copies]))

    def test_next_hand_against_a_walk(self):
        for ring in ALL:
            for hand in ring[1]:
                self.assertEqual(next_hand(ring, hand), hands_met(ring, step(ring, hand))[0])

    def test_a_hand_alone(self):
        for beat in range(2, 8):
            for spot in (0, 1, 2 ** beat - 1):
                ring = (beat, (spot,))
                self.assertEqual(next_hand(ring, spot), spot)
                for key in range(2 ** beat):
                    self.assertEqual(home_of(ring, key), spot)
                    self.assertEqual(holders(ring, key, 6), (spot,))


class Spans(unittest.TestCase):
    def keys_of(self, ring, span):
        first, many = span
        keys = []
        for _ in range(many):
            keys.append(first)
            first = step(ring, first)
        return keys

    def test_against_home_of(self):
        for ring in ALL:
            for hand in ring[1]:
                mine = [key for key in range(spots_of(ring)) if home_of(ring, key) == hand]
                keys = self.keys_of(ring, span_of(ring, hand))
                self.assertEqual(sorted(keys), mine)
                self.assertEqual(keys[-1], hand)

    def test_all_spans_are_all_keys_once(self):
        for ring in ALL:
            keys = []
            for hand in ring[1]:
                keys += self.keys_of(ring, span_of(ring, hand))
            self.assertEqual(sorted(keys), list(range(spots_of(ring))))

    def test_known_spans(self):
        self.assertEqual(span_of((3, (1, 4, 6)), 1), (7, 3))
        self.assertEqual(span_of((3, (1, 4, 6)), 4), (2, 3))
        self.assertEqual(span_of((3, (1, 4, 6)), 6), (5, 2))
        self.assertEqual(span_of((3, (0, 7)), 0), (0, 1))
        self.assertEqual(span_of((3, (0, 7)), 7), (1, 7))

    def test_a_hand_alone_has_all_from_behind_it_on(self):
        self.assertEqual(span_of((3, (5,)), 5), (6, 8))
        self.assertEqual(span_of((3, (7,)), 7), (0, 8))

    def test_no_hand(self):
        for hand in (-1, 0, 2, 7, 8):
            with self.assertRaises(NoHand):
                span_of((3, (1, 4, 6)), hand)


class ComingAndGoing(unittest.TestCase):
    def test_known(self):
        self.assertEqual(came((3, (1, 4)), 0), (3, (0, 1, 4)))
        self.assertEqual(came((3, (1, 4)), 2), (3, (1, 2, 4)))
        self.assertEqual(came((3, (1, 4)), 7), (3, (1, 4, 7)))
        self.assertEqual(went((3, (1, 4, 6)), 1), (3, (4, 6)))
        self.assertEqual(went((3, (1, 4, 6)), 4), (3, (1, 6)))
        self.assertEqual(went((3, (1, 4, 6)), 6), (3, (1, 4)))

    def test_came_is_the_ring_with_a_hand_more(self):
        for ring in ALL:
            for spot in free_spots(ring):
                more = came(ring, spot)
                self.assertEqual(more, (ring[0], tuple(sorted(ring[1] + (spot,)))))
                self.assertEqual(went(more, spot), ring)

    def test_went_is_the_ring_with_a_hand_less(self):
        for ring in ALL:
            if len(ring[1]) > 1:
                for hand in ring[1]:
                    less = went(ring, hand)
                    self.assertEqual(less, (ring[0], tuple(h for h in ring[1] if h != hand)))
                    self.assertEqual(came(less, hand), ring)

    def test_keys_move_to_the_one_that_comes_alone(self):
        for ring in ALL:
            before = [home_of(ring, key) for key in range(spots_of(ring))]
            for spot in free_spots(ring):
                more = came(ring, spot)
                after = [home_of(more, key) for key in range(spots_of(ring))]
                for old, new in zip(before, after):
                    self.assertIn(new, (old, spot))
                self.assertEqual(after[spot], spot)

    def test_keys_move_from_the_one_that_goes_alone(self):
        for ring in ALL:
            if len(ring[1]) > 1:
                before = [home_of(ring, key) for key in range(spots_of(ring))]
                for hand in ring[1]:
                    less = went(ring, hand)
                    for key, old in enumerate(before):
                        if old == hand:
                            self.assertEqual(home_of(less, key), next_hand(ring, hand))
                        else:
                            self.assertEqual(home_of(less, key), old)

    def test_more_than_twelve_hands_are_taken(self):
        for beat in (4, 5, 7):
            ring = (beat, (0,))
            for spot in [(k * 5) % 2 ** beat for k in range(1, 2 ** beat)]:
                ring = came(ring, spot)
                self.assertIs(is_ring(ring), len(ring[1]) <= 12)
                self.assertEqual([home_of(ring, key) for key in range(2 ** beat)], homes(ring))
                self.assertEqual(holders(ring, spot, 6), tuple(hands_met(ring, spot)[:6]))
                self.assertEqual(next_hand(ring, spot), hands_met(ring, step(ring, spot))[0])
                self.assertEqual(span_of(ring, spot)[1], homes(ring).count(spot))
            self.assertEqual(ring, (beat, tuple(range(2 ** beat))))
            for hand in range(2 ** beat - 1):
                ring = went(ring, hand)
            self.assertEqual(ring, (beat, (2 ** beat - 1,)))

    def test_no_hand_of_a_spot_that_is_none(self):
        for ring in ALL:
            for spot in (-spots_of(ring), -1, spots_of(ring), spots_of(ring) + 1, 10 ** 40):
                with self.assertRaises(NoHand):
                    came(ring, spot)

    def test_no_hand_where_a_hand_is_already(self):
        for ring in ALL:
            for spot in ring[1]:
                with self.assertRaises(NoHand):
                    came(ring, spot)

    def test_no_hand_of_a_hand_that_is_not_there(self):
        for ring in ALL:
            for hand in free_spots(ring) + [-1, spots_of(ring), ring[1][0] + spots_of(ring)]:
                with self.assertRaises(NoHand):
                    went(ring, hand)

    def test_no_hand_of_the_last_one(self):
        for ring in ALL:
            if len(ring[1]) == 1:
                with self.assertRaises(NoHand) as caught:
                    went(ring, ring[1][0])
                self.assertNotIsInstance(caught.exception, NoKey)


if __name__ == "__main__":
    unittest.main()
