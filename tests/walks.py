"""What the tests measure the program by: walks round a ring, one step at a time, and rings to walk."""

import itertools
import random


def spots_of(ring):
    return 2 ** ring[0]


def step(ring, spot):
    return 0 if spot == spots_of(ring) - 1 else spot + 1


def steps_between(ring, one, other):
    steps = 0
    while one != other:
        one = step(ring, one)
        steps += 1
    return steps


def hands_met(ring, key):
    """All hands, in the order in which a walk from the key on, once round, meets them."""
    met = []
    for _ in range(spots_of(ring)):
        if key in ring[1]:
            met.append(key)
        key = step(ring, key)
    return met


def homes(ring):
    return [hands_met(ring, key)[0] for key in range(spots_of(ring))]


def all_rings(beat):
    """Every ring of a beat, also those with more than 12 hands."""
    spots = range(2 ** beat)
    for many in range(1, 2 ** beat + 1):
        for hands in itertools.combinations(spots, many):
            yield (beat, hands)


def small_rings():
    return [ring for beat in (2, 3) for ring in all_rings(beat)]


def large_rings():
    """Some rings of the beats from 4 to 7, with few and many hands, up to a hand at every spot."""
    choice = random.Random(11)
    rings = []
    for beat in (4, 5, 6, 7):
        spots = 2 ** beat
        for many in (1, 2, 3, 5, 8, 12, 13, 16):
            rings.append((beat, tuple(sorted(choice.sample(range(spots), many)))))
        rings.append((beat, (0,)))
        rings.append((beat, (spots - 1,)))
        rings.append((beat, tuple(range(12))))
        rings.append((beat, tuple(range(spots - 12, spots))))
        rings.append((beat, tuple(2 ** k for k in range(beat))))
        rings.append((beat, tuple(range(spots))))
    return rings


def rings_beyond():
    """Rings whose beat lies somewhat beyond the bounds."""
    return [(1, (0,)), (1, (1,)), (1, (0, 1)), (8, (255,)), (8, (0, 1, 100, 255)), (9, (3, 300, 511))]
