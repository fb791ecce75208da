"""Crews: whose spots, whose keys; and where a hand comes best (0.2 (i), 7.1, 7.2)."""

import itertools
import random
import unittest

from ringkeep.crews import best_spot, even_ring, loads, name_of, names_for, ring_of
from ringkeep.errors import NoHand
from ringkeep.rings import is_ring
from tests.walks import free_spots, hands_met, large_rings, small_rings, spots_of, step

KNOWN = ((3, 9), (0,), (5, 6, 14))


def rising(spots):
    return tuple(sorted(spots))


def every_small_crew():
    """On the four spots of beat 2: each way in which each spot is somebody's or nobody's."""
    for owners in itertools.product((None, 0, 1, 2, 3), repeat=4):
        named = sorted({owner for owner in owners if owner is not None})
        if named and named == list(range(len(named))):
            yield 2, tuple(tuple(spot for spot in range(4) if owners[spot] == name) for name in named)


def crew_of(choice, beat, sizes):
    spots = choice.sample(range(2 ** beat), sum(sizes))
    crew = []
    for many in sizes:
        crew.append(rising(spots[:many]))
        spots = spots[many:]
    return tuple(crew)


def some_crews():
    """Crews of one to six names with one to four spots each, on the beats from 3 to 7, and somewhat beyond."""
    choice = random.Random(31)
    crews = []
    for beat in (3, 4, 5, 6, 7):
        for names in range(1, 7):
            for most in (1, 2, 4):
                sizes = [choice.randrange(1, most + 1) for _ in range(names)]
                if sum(sizes) <= 2 ** beat:
                    crews.append((beat, crew_of(choice, beat, sizes)))
        crews.append((beat, crew_of(choice, beat, (4,))))
        crews.append((beat, crew_of(choice, beat, (4, 4))))
    crews += [(beat, crew_of(choice, beat, (4,) * 6)) for beat in (5, 6, 7)]
    crews += [(4, crew_of(choice, 4, (2,) * 8)), (5, crew_of(choice, 5, (7, 1, 9))), (8, crew_of(choice, 8, (3, 2, 1)))]
    crews += [(1, ((1,),)), (1, ((1,), (0,))), (1, ((0, 1),)), (3, ((0, 1, 2, 3), (4, 5, 6, 7)))]
    return crews


CREWS = list(every_small_crew()) + some_crews()


def walked_ring(beat, crew):
    return (beat, tuple(spot for spot in range(2 ** beat) if any(spot in spots for spots in crew)))


def walked_names(beat, crew, key):
    """All names, in the order in which a walk from the key on meets them."""
    names = []
    for spot in hands_met(walked_ring(beat, crew), key):
        names += [name for name in range(len(crew)) if spot in crew[name] and name not in names]
    return tuple(names)


class Crews(unittest.TestCase):
    def test_known(self):
        self.assertEqual(ring_of(4, KNOWN), (4, (0, 3, 5, 6, 9, 14)))
        self.assertEqual([name_of(KNOWN, spot) for spot in (0, 3, 5, 6, 9, 14)], [1, 0, 2, 2, 0, 2])
        self.assertEqual(loads(4, KNOWN), (6, 2, 8))
        self.assertEqual(names_for(4, KNOWN, 4, 2), (2, 0))
        self.assertEqual(names_for(4, KNOWN, 4, 3), (2, 0, 1))
        self.assertEqual(names_for(4, KNOWN, 15, 3), (1, 0, 2))
        self.assertEqual(names_for(4, KNOWN, 10, 1), (2,))

    def test_the_ring_of_all_spots(self):
        for beat, crew in CREWS:
            self.assertEqual(ring_of(beat, crew), walked_ring(beat, crew))

    def test_more_than_twelve_spots(self):
        crew = tuple((k, k + 6, k + 12, k + 18) for k in range(6))
        self.assertEqual(ring_of(5, crew), (5, tuple(range(24))))
        self.assertEqual(loads(5, crew), (12, 4, 4, 4, 4, 4))

    def test_whose_spot(self):
        for beat, crew in CREWS:
            for name, spots in enumerate(crew):
                for spot in spots:
                    self.assertEqual(name_of(crew, spot), name)
            for spot in free_spots(walked_ring(beat, crew)) + [-1, 2 ** beat, 2 ** beat + crew[0][0]]:
                with self.assertRaises(NoHand) as caught:
                    name_of(crew, spot)
                self.assertIs(type(caught.exception), NoHand)

    def test_loads(self):
        for beat, crew in CREWS:
            firsts = [walked_names(beat, crew, key)[0] for key in range(2 ** beat)]
            told = loads(beat, crew)
            self.assertEqual(told, tuple(firsts.count(name) for name in range(len(crew))))
            self.assertEqual(sum(told), 2 ** beat)

    def test_names_for_each_key(self):
        for beat, crew in CREWS:
            for key in range(2 ** beat):
                names = walked_names(beat, crew, key)
                self.assertEqual(len(names), len(crew))
                for copies in range(1, 7):
                    self.assertEqual(names_for(beat, crew, key, copies), names[:copies], (beat, crew, key, copies))

    def test_names_for_copies_beyond(self):
        for beat, crew in CREWS[::9]:
            for key in range(2 ** beat):
                for copies in (0, 7, 8, 20):
                    self.assertEqual(names_for(beat, crew, key, copies), walked_names(beat, crew, key)[:copies])
                self.assertEqual(names_for(beat, crew, key, -1), ())

    def test_names_for_a_key_that_is_a_spot(self):
        for beat, crew in CREWS:
            for name, spots in enumerate(crew):
                for spot in spots:
                    self.assertEqual(names_for(beat, crew, spot, 1), (name,))
                    self.assertEqual(names_for(beat, crew, spot, 6)[0], name)


class Promise(unittest.TestCase):
    """0.2 (i)."""

    crews = [(beat, crew) for beat, crew in CREWS if len(crew) > 1]

    def test_keys_move_to_and_from_the_last_name_alone(self):
        for beat, crew in self.crews:
            last = len(crew) - 1
            moved = 0
            for key in range(2 ** beat):
                with_it = names_for(beat, crew, key, 1)
                without = names_for(beat, crew[:-1], key, 1)
                if with_it != without:
                    self.assertEqual(with_it, (last,))
                    moved += 1
            self.assertEqual(moved, loads(beat, crew)[last])

    def test_the_other_names_keep_their_order(self):
        for beat, crew in self.crews:
            last = len(crew) - 1
            for key in range(2 ** beat):
                without = names_for(beat, crew[:-1], key, last)
                for copies in range(1, len(crew) + 1):
                    others = tuple(name for name in names_for(beat, crew, key, copies) if name != last)
                    self.assertEqual(others, without[:len(others)])
                    self.assertGreaterEqual(len(others), copies - 1)

    def test_no_other_load_is_less_without_it(self):
        for beat, crew in self.crews:
            for with_it, without in zip(loads(beat, crew), loads(beat, crew[:-1])):
                self.assertLessEqual(with_it, without)


class BestSpot(unittest.TestCase):
    def keys_at(self, ring, spot):
        """How many keys would come to a hand that comes to the spot, by trying each key."""
        more = (ring[0], rising(ring[1] + (spot,)))
        many = 0
        for key in range(spots_of(ring)):
            here = key
            while here not in more[1]:
                here = step(ring, here)
            many += here == spot
        return many

    def tried(self, ring):
        many = {spot: self.keys_at(ring, spot) for spot in free_spots(ring)}
        best = min(many, key=lambda spot: (-many[spot], spot))
        return (best, many[best])

    def test_known(self):
        self.assertEqual(best_spot((4, (0, 3, 5, 9, 14))), (13, 4))
        self.assertEqual(best_spot((3, (0, 4))), (3, 3))
        self.assertEqual(best_spot((3, (1, 5))), (0, 3))
        self.assertEqual(best_spot((2, (0, 1, 3))), (2, 1))

    def test_small_rings_against_trying_each_spot(self):
        for ring in small_rings():
            if free_spots(ring):
                self.assertEqual(best_spot(ring), self.tried(ring), ring)

    def test_larger_rings_against_trying_each_spot(self):
        for ring in large_rings():
            if free_spots(ring):
                self.assertEqual(best_spot(ring), self.tried(ring), ring)

    def test_one_spot_left(self):
        for beat in range(1, 8):
            for left in sorted({0, 1, 2 ** beat // 2, 2 ** beat - 1}):
                ring = (beat, tuple(spot for spot in range(2 ** beat) if spot != left))
                self.assertEqual(best_spot(ring), (left, 1))

    def test_one_hand(self):
        for beat in range(1, 9):
            spots = 2 ** beat
            for hand in range(spots):
                self.assertEqual(best_spot((beat, (hand,))), ((hand - 1) % spots, spots - 1))

    def test_the_least_spot_among_several(self):
        for beat in range(2, 8):
            spots = 2 ** beat
            for turned in range(spots // 2):
                ring = (beat, (turned, turned + spots // 2))
                least = min((turned - 1) % spots, turned + spots // 2 - 1)
                self.assertEqual(best_spot(ring), (least, spots // 2 - 1))


class EvenRing(unittest.TestCase):
    def put_down(self, whole, parts):
        """How often the parts go into the whole."""
        times = 0
        while (times + 1) * parts <= whole:
            times += 1
        return times

    def spans(self, ring):
        homes = [hands_met(ring, key)[0] for key in range(spots_of(ring))]
        return [homes.count(hand) for hand in ring[1]]

    def test_known(self):
        self.assertEqual(even_ring(3, 3), (3, (0, 2, 5)))
        self.assertEqual(even_ring(4, 5), (4, (0, 3, 6, 9, 12)))
        self.assertEqual(even_ring(4, 12), (4, (0, 1, 2, 4, 5, 6, 8, 9, 10, 12, 13, 14)))
        self.assertEqual(even_ring(7, 1), (7, (0,)))
        self.assertEqual(even_ring(2, 4), (2, (0, 1, 2, 3)))

    def test_each_beat_and_number(self):
        for beat in range(2, 8):
            for many in range(1, min(12, 2 ** beat) + 1):
                ring = even_ring(beat, many)
                self.assertIs(is_ring(ring), True)
                self.assertEqual(ring, (beat, tuple(self.put_down(k * 2 ** beat, many) for k in range(many))))
                spans = self.spans(ring)
                self.assertEqual(len(spans), many)
                self.assertLessEqual(max(spans) - min(spans), 1)

    def test_somewhat_beyond(self):
        for beat, many in ((4, 13), (4, 16), (5, 20), (1, 1), (1, 2), (8, 7), (8, 12)):
            ring = even_ring(beat, many)
            self.assertEqual(ring[0], beat)
            self.assertEqual(len(ring[1]), many)
            self.assertEqual(ring[1], rising(set(ring[1])))
            spans = self.spans(ring)
            self.assertLessEqual(max(spans) - min(spans), 1)


if __name__ == "__main__":
    unittest.main()
