"""What is a ring, and what is none (0.4, 1.1)."""

import copy
import unittest

from ringkeep.rings import came, is_ring
from tests.walks import all_rings


def nested(depth, kind, core):
    thing = core
    for _ in range(depth):
        thing = kind([thing])
    return thing


DEEP = [
    nested(depth, kind, core)
    for depth in (1, 2, 5, 30, 35)
    for kind in (list, tuple)
    for core in (0, (2, (0,)), [], (), None, "ring")
]

PLAIN = [None, True, False, -1, 0, 1, 2, 7, 10 ** 80, "", "ring", "(2, (0,))", "2", "20", [], (), [2, (0,)], [[]], ((),)]


class IsRing(unittest.TestCase):
    def is_one(self, thing):
        self.assertIs(is_ring(thing), True, thing)

    def is_none(self, thing):
        self.assertIs(is_ring(thing), False, thing)

    def test_rings_of_each_beat_with_each_number_of_hands(self):
        for beat in range(2, 8):
            spots = 2 ** beat
            for many in range(1, min(12, spots) + 1):
                self.is_one((beat, tuple(range(many))))
                self.is_one((beat, tuple(range(spots - many, spots))))
                self.is_one((beat, tuple(k * spots // many for k in range(many))))

    def test_a_hand_alone_at_each_spot(self):
        for beat in range(2, 8):
            for spot in range(2 ** beat):
                self.is_one((beat, (spot,)))
            self.is_none((beat, (-1,)))
            self.is_none((beat, (2 ** beat,)))

    def test_every_ring_of_small_beats(self):
        for beat in (2, 3):
            for ring in all_rings(beat):
                self.is_one(ring)

    def test_beat_beyond(self):
        for beat in (-3, -1, 0, 1, 8, 9, 128, 10 ** 60):
            self.is_none((beat, (0,)))
            self.is_none((beat, (0, 1)))

    def test_spots_beyond(self):
        for beat in range(2, 8):
            spots = 2 ** beat
            for hands in ((-1, 0), (0, spots), (0, 1, spots + 1), (-spots,), (0, 10 ** 60)):
                self.is_none((beat, hands))

    def test_spots_twice_or_not_rising(self):
        for hands in ((0, 0), (3, 3), (0, 1, 1), (0, 0, 1), (1, 0), (0, 2, 1), (3, 2, 1, 0), (1, 2, 3, 0)):
            for beat in range(2, 8):
                self.is_none((beat, hands))

    def test_no_hand_or_thirteen(self):
        for beat in range(2, 8):
            self.is_none((beat, ()))
        for beat in range(4, 8):
            self.is_one((beat, tuple(range(12))))
            self.is_none((beat, tuple(range(13))))
            self.is_none((beat, tuple(range(2 ** beat))))
            self.is_none(came((beat, tuple(range(12))), 15))

    def test_a_list_in_the_place_of_a_tuple(self):
        for thing in ([2, (0,)], (2, [0]), [2, [0]], (2, [0, 1]), (2, ([0],)), ([2], (0,)), (2, [])):
            self.is_none(thing)

    def test_a_truth_in_the_place_of_a_whole_number(self):
        for thing in (
            (True, (0,)), (False, (0,)), (True, (True,)),
            (2, (True,)), (2, (False,)), (2, (0, True)), (2, (False, 1)), (3, (False, True)), (4, (0, True, 2)),
            (2, True), (2, False),
        ):
            self.is_none(thing)

    def test_other_kinds_in_a_place(self):
        for other in (None, "", "0", "2", "text", (), (0,), [], [0], -1):
            self.is_none((other, (0,)))
            self.is_none((2, (other,)))
            self.is_none((2, (0, other)))
            self.is_none((2, (other, 3)))
        for other in (None, "", "0", "01", 0, 1, ["0"], ("0",)):
            self.is_none((2, other))

    def test_no_pairs(self):
        for thing in ((), (2,), ((0,),), (2, (0,), 0), (2, (0,), (1,)), (2, 0), (2, 0, 1), ((0,), 2), ((2, (0,)),)):
            self.is_none(thing)

    def test_plain_and_deeply_nested_things(self):
        for thing in PLAIN + DEEP:
            self.is_none(thing)
            self.is_none((2, (thing, thing)))
            self.is_none((thing, thing))
            self.is_none([thing, thing])
        for thing in DEEP:
            self.is_none((thing, (0,)))
            self.is_none((2, (thing,)))
            self.is_none((3, (0, 1, thing)))

    def test_a_bad_spot_at_each_place(self):
        hands = tuple(range(1, 13))
        for place in range(12):
            for bad in (-1, 16, None, "1", True, [1], (1,)):
                self.is_none((4, hands[:place] + (bad,) + hands[place + 1:]))

    def test_what_is_handed_in_is_not_changed(self):
        for thing in PLAIN + DEEP + [[2, [1, 0]], (2, [3, 1]), (2, (0, [1]))]:
            before = copy.deepcopy(thing)
            first = is_ring(thing)
            self.assertEqual(thing, before)
            self.assertIs(is_ring(thing), first)


if __name__ == "__main__":
    unittest.main()
