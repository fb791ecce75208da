"""What is told is plain, what is handed in stays, and the same is told again (0.3)."""

import copy
import unittest

from ringkeep.rings import came, holders, home_of, how_far, is_ring, next_hand, span_of, went
from ringkeep.routes import fingers, most_hops, route
from tests.walks import large_rings, small_rings, spots_of


def calls_on(ring):
    """Every function with some arguments of the ring's, and the kind that it tells."""
    hand = ring[1][-1]
    free = [spot for spot in range(spots_of(ring)) if spot not in ring[1]]
    calls = [(is_ring, (ring,), bool), (most_hops, (ring,), int), (next_hand, (ring, hand), int)]
    calls += [(span_of, (ring, hand), tuple), (fingers, (ring, hand), tuple)]
    for key in (0, 1, spots_of(ring) - 1):
        calls += [(how_far, (ring, key, hand), int), (home_of, (ring, key), int)]
        calls += [(holders, (ring, key, 1), tuple), (holders, (ring, key, 6), tuple), (route, (ring, hand, key), tuple)]
    calls += [(came, (ring, spot), tuple) for spot in free[:2]]
    if len(ring[1]) > 1:
        calls.append((went, (ring, hand), tuple))
    return calls


class Values(unittest.TestCase):
    rings = small_rings()[::3] + [ring for ring in large_rings() if len(ring[1]) <= 16]

    def assert_plain(self, told):
        if type(told) is tuple:
            for part in told:
                self.assert_plain(part)
        else:
            self.assertIn(type(told), (int, bool, type(None)))

    def test_told_are_plain_values_of_the_kind(self):
        for ring in self.rings:
            for function, given, kind in calls_on(ring):
                told = function(*given)
                self.assertIs(type(told), kind, function)
                self.assert_plain(told)

    def test_whole_numbers_are_told_where_whole_numbers_belong(self):
        def flat(told):
            return [part for thing in told for part in flat(thing)] if type(told) is tuple else [told]

        for ring in self.rings:
            for function, given, kind in calls_on(ring):
                if kind is not bool:
                    for part in flat(function(*given)):
                        self.assertIs(type(part), int, function)

    def test_handed_in_is_not_changed_and_the_same_is_told_again(self):
        for ring in self.rings:
            calls = calls_on(ring)
            before = copy.deepcopy([given for _, given, _ in calls])
            first = [function(*given) for function, given, _ in calls]
            again = [function(*given) for function, given, _ in reversed(calls)]
            self.assertEqual(again[::-1], first)
            self.assertEqual([given for _, given, _ in calls], before)

    def test_equal_rings_are_told_the_same(self):
        for ring in self.rings:
            twin = (ring[0], tuple(list(ring[1])))
            for (function, given, _), (_, others, _) in zip(calls_on(ring), calls_on(twin)):
                self.assertEqual(function(*given), function(*others))


if __name__ == "__main__":
    unittest.main()
